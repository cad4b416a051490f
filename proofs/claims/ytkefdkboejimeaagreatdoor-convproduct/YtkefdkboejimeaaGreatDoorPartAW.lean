/- A part. -/
import Derived.Test.YtkefdkboejimeaaGreatDoorMini
import Derived.Test.YtkefdkboejimeaaGreatDoorPartAT
import Derived.Test.YtkefdkboejimeaaGreatDoorPartAV
import Derived.Test.YtkefdkboejimeaaGreatDoorPartAR
import Derived.Deep.RegionHeld3
import Derived.BigQuiet
import Derived.Deep.AppendLies
set_option maxHeartbeats 40000000
set_option maxRecDepth 100000
namespace Go.Proofs.YtkefdkboejimeaaGreatDoor
open Go.RowKit
theorem ValsIn.at {w : World} {b off n c : Nat} {vs : List (Val × List Int)} (h : ValsIn w (.slice (some ⟨b, off, none⟩) n c) vs) (k : Nat) (hk : k < vs.length) : w.cell? ⟨b, off + k * 3 + 1, none⟩ = some (.int .i64 (vs[k].1.ty)) ∧ w.cell? ⟨b, off + k * 3 + 2, none⟩ = some (.slice vs[k].1.dv.a vs[k].1.dv.n vs[k].1.dv.c) := by
 obtain ⟨-, h1, h2⟩ := h.vals.val k (by rw [List.length_map]; exact hk)
 rw [List.getElem_map] at h1 h2
 exact ⟨h1, h2⟩
theorem jk3 {ts : List Int} {t : Int} (h : jb0 ts = .ok t) (hp : 0 < ts.length) (ht : ∀ s ∈ ts, jaV s = true) : jaV t = true := by
 cases ts with
 | nil => simp at hp
 | cons a l =>
  by_cases hc : l.all (fun s => s == a) = true
  ·have e : jb0 (a :: l) = .ok a := by simp only [jb0]; rw [if_pos hc]
   rw [e] at h
   cases h
   exact ht t (by simp)
  ·have e : jb0 (a :: l) = .error 4 := by simp only [jb0]; rw [if_neg hc]
   rw [e] at h
   cases h
def jcS (vs : List (Val × List Int)) : List Int := vs.map (·.1.ty)
theorem jk4 (n : Nod) (A : At) (u : Sl) (vs : List (Val × List Int)) (w : World) (hop : n.op ∈ ([⟨#[67, 111, 110, 99, 97, 116]⟩, ⟨#[82, 101, 115, 104, 97, 112, 101]⟩, ⟨#[69, 120, 112, 97, 110, 100]⟩, ⟨#[84, 114, 97, 110, 115, 112, 111, 115, 101]⟩, ⟨#[83, 108, 105, 99, 101]⟩, ⟨#[83, 113, 117, 101, 101, 122, 101]⟩, ⟨#[85, 110, 115, 113, 117, 101, 101, 122, 101]⟩, ⟨#[70, 108, 97, 116, 116, 101, 110]⟩] : List ByteArray)) (hn : NodeOk w n A) (hv : ValsIn w u.v vs) (hp : 0 < vs.length) (hf : vs.length ≤ 1000000) (ht : ∀ s ∈ jcS vs, jaV s = true) : Calls Tryz.prog 121 #[jaL n, .slice u.a u.n u.c] w (jbj w (jb0 (jcS vs)) fun t v _ => v = .int .i64 t) := by
 obtain ⟨xa, xc, e1, p1, p2, p3⟩ := hv.vals.form
 rw [List.length_map] at e1 p1 p3
 obtain ⟨ua, un, uc⟩ := u
 simp only [Sl.v, Value.slice.injEq] at e1
 obtain ⟨rfl, rfl, rfl⟩ := e1
 have HV := jae hv
 have HT := jae ht
 clear hv ht
 have NK := jae hn
 obtain ⟨op, nam, ⟨ia, il, ic⟩, out, ⟨ao, al, cap⟩⟩ := n
 unfold jaL
 simp only
 obtain ⟨w0, hw0⟩ : ∃ w0, w0 = w.alloc (.cells #[.string op, .string nam, .slice ia il ic, .string out, .slice ao al cap] 35) := ⟨_, rfl⟩
 have g0 : Hid (w.grownBy w0 none) := by show w.grownBy w0 none; rw [hw0]; exact jab _ _
 have hb0 := heap_alloc_new w (.cells #[.string op, .string nam, .slice ia il ic, .string out, .slice ao al cap] 35)
 rw [← hw0] at hb0
 have BX : Hid (∀ wx, w0.grownBy wx none → wx.heap[w.heap.size]? = some (.cells #[.string op, .string nam, .slice ia il ic, .string out, .slice ao al cap] 35 (0, 0))) := fun wx hg => jad hb0 hg
 clear hb0 hn
 simp only at hop
 have SM := jae (jd6 ⟨ua, vs.length, uc⟩ vs w0 (HV.out.more g0.out) hp hf)
 simp only at SM
 have HK : Hid (jcS vs = vs.map (·.1.ty)) := rfl
 simp only [List.mem_cons, List.not_mem_nil, or_false] at hop
 rcases hop with rfl | rfl | rfl | rfl | rfl | rfl | rfl | rfl
 all_goals
  go_enter Tryz.func121, Tryz.ntmps121
  go_wp2_with fail
  rw [← hw0]
  clear hw0
  cases hk : jb0 (vs.map (·.1.ty)) with
  | error c =>
   rw [hk] at SM
   have E : Hid (jb0 (jcS vs) = .error c) := hk
   clear hk
   refine SM.out.mono ?_
   rintro e w' ⟨hg, rfl⟩
   exact ⟨rfl, jam E.out (jaa g0.out hg)⟩
  | ok t =>
   rw [hk] at SM
   have E : Hid (jb0 (jcS vs) = .ok t) := hk
   clear hk
   refine SM.out.mono ?_
   rintro e w' ⟨hg, v, rfl, rfl⟩
   go_wp2
   go_ret
   exact jbc E.out (jaa g0.out hg) rfl
theorem jdX (n : Nod) (A : At) (u : Sl) (vs : List (Val × List Int)) (w : World) (hop : n.op ∈ ([⟨#[67, 108, 105, 112]⟩, ⟨#[83, 111, 102, 116, 109, 97, 120]⟩, ⟨#[82, 101, 100, 117, 99, 101, 77, 101, 97, 110]⟩, ⟨#[80, 97, 100]⟩, ⟨#[77, 97, 116, 77, 117, 108]⟩, ⟨#[71, 101, 109, 109]⟩, ⟨#[67, 111, 110, 118]⟩, ⟨#[77, 97, 120, 80, 111, 111, 108]⟩, ⟨#[65, 118, 101, 114, 97, 103, 101, 80, 111, 111, 108]⟩, ⟨#[71, 108, 111, 98, 97, 108, 65, 118, 101, 114, 97, 103, 101, 80, 111, 111, 108]⟩, ⟨#[66, 97, 116, 99, 104, 78, 111, 114, 109, 97, 108, 105, 122, 97, 116, 105, 111, 110]⟩] : List ByteArray)) (hn : NodeOk w n A) (hv : ValsIn w u.v vs) (hp : 0 < vs.length) (hf : vs.length ≤ 1000000) (ht : ∀ s ∈ jcS vs, jaV s = true) : Calls Tryz.prog 121 #[jaL n, .slice u.a u.n u.c] w (jbj w ((jb0 (jcS vs)).bind (fun t => (jaz (t == 1)).bind (fun _ => .ok (1 : Int)))) fun t v _ => v = .int .i64 t) := by
 obtain ⟨xa, xc, e1, p1, p2, p3⟩ := hv.vals.form
 rw [List.length_map] at e1 p1 p3
 obtain ⟨ua, un, uc⟩ := u
 simp only [Sl.v, Value.slice.injEq] at e1
 obtain ⟨rfl, rfl, rfl⟩ := e1
 have HV := jae hv
 have HT := jae ht
 clear hv ht
 have NK := jae hn
 obtain ⟨op, nam, ⟨ia, il, ic⟩, out, ⟨ao, al, cap⟩⟩ := n
 unfold jaL
 simp only
 obtain ⟨w0, hw0⟩ : ∃ w0, w0 = w.alloc (.cells #[.string op, .string nam, .slice ia il ic, .string out, .slice ao al cap] 35) := ⟨_, rfl⟩
 have g0 : Hid (w.grownBy w0 none) := by show w.grownBy w0 none; rw [hw0]; exact jab _ _
 have hb0 := heap_alloc_new w (.cells #[.string op, .string nam, .slice ia il ic, .string out, .slice ao al cap] 35)
 rw [← hw0] at hb0
 have BX : Hid (∀ wx, w0.grownBy wx none → wx.heap[w.heap.size]? = some (.cells #[.string op, .string nam, .slice ia il ic, .string out, .slice ao al cap] 35 (0, 0))) := fun wx hg => jad hb0 hg
 clear hb0 hn
 simp only at hop
 have SM := jae (jd6 ⟨ua, vs.length, uc⟩ vs w0 (HV.out.more g0.out) hp hf)
 simp only at SM
 obtain ⟨X, hX⟩ : ∃ X, X = (jb0 (jcS vs)).bind (fun t => (jaz (t == 1)).bind (fun _ => .ok (1 : Int))) := ⟨_, rfl⟩
 have E0 : Hid (X = (jb0 (vs.map (·.1.ty))).bind (fun t => (jaz (t == 1)).bind (fun _ => .ok (1 : Int)))) := hX
 rw [← hX]
 clear hX
 simp only [List.mem_cons, List.not_mem_nil, or_false] at hop
 rcases hop with rfl | rfl | rfl | rfl | rfl | rfl | rfl | rfl | rfl | rfl | rfl
 all_goals
  go_enter Tryz.func121, Tryz.ntmps121
  go_wp2_with fail
  rw [← hw0]
  clear hw0
  cases hk : jb0 (vs.map (·.1.ty)) with
  | error c =>
   rw [hk] at SM
   have E : Hid (X = .error c) := by show _ = _; rw [E0.out, hk]; rfl
   clear hk
   refine SM.out.mono ?_
   rintro e w' ⟨hg, rfl⟩
   exact ⟨rfl, jam E.out (jaa g0.out hg)⟩
  | ok t =>
   rw [hk] at SM
   have E : Hid (X = (jaz (t == 1)).bind (fun _ => .ok (1 : Int))) := by show _ = _; rw [E0.out, hk]; rfl
   clear hk
   refine SM.out.mono ?_
   rintro e w' ⟨hg, v, rfl, rfl⟩
   cases h1 : (t == 1) with
   | true =>
    have E2 : Hid (X = .ok (1 : Int)) := by show _ = _; rw [E.out, h1]; rfl
    go_wp2_with (first | (go_at_call 118; refine (jaT _).mono ?_; rintro e w'' ⟨rfl, rfl⟩) | fail)
    go_ret
    exact jbc E2.out (jaa g0.out hg) rfl
   | false =>
    have E2 : Hid (X = .error 4) := by show _ = _; rw [E.out, h1]; rfl
    go_wp2_with (first | (go_at_call 118; refine (ja2 _).mono ?_; rintro e w'' ⟨rfl, rfl⟩) | fail)
    exact ⟨rfl, jam E2.out (jaa g0.out hg)⟩
end Go.Proofs.YtkefdkboejimeaaGreatDoor
namespace Go.Proofs.YtkefdkboejimeaaGreatDoor
open Go.RowKit
def jek : List (Val × List Int) → R Unit
 | [] => .ok ()
 | p :: l => (jhd p.1.ty).bind (fun _ => (ja9 p.2).bind (fun _ => jek l))
def jda (t : Int) : List ByteArray → R Unit
 | [] => .ok ()
 | o :: l => (jaz (jc9 o.toList t)).bind (fun _ => jda t l)
theorem jk5 {vs : List (Val × List Int)} {k : Nat} (hk : k < vs.length) : jek (vs.drop k) = (jhd vs[k].1.ty).bind (fun _ => (ja9 vs[k].2).bind (fun _ => jek (vs.drop (k + 1)))) := by
 rw [List.drop_eq_getElem_cons hk]
 rfl
theorem jjs {t : Int} {os : List ByteArray} {k : Nat} (hk : k < os.length) : jda t (os.drop k) = (jaz (jc9 os[k].toList t)).bind (fun _ => jda t (os.drop (k + 1))) := by
 rw [List.drop_eq_getElem_cons hk]
 rfl
theorem jk6 : (Tryz.prog.info? 53).map (·.size) = some 3 := by kernel_rfl
theorem jhO {fn : Func} {p : Tmp} (h : fn.results = #[.cell p 53]) (tmps : Array Value) (w : World) (B : Nat) (hp : tmps.getD p undef = .pointer (some ⟨B, 0, none⟩)) {a0 a1 a2 : Value}
    (hb : w.heap[B]? = some (.cells #[a0, a1, a2] 53 (0, 0))) : (results fn tmps).run Tryz.prog w = .ok (.agg #[a0, a1, a2]) w :=
     results_cell_row h tmps w B 53 #[a0, a1, a2] (0, 0) _ hp hb Tryz.underlying53 rfl (by rw [jk6]; rfl)
theorem jgH (nm : ByteArray) (t : Int) (u : Sl) (ds : List Int) (w : World) (hd : IsInts w u.v ds) (hs : nm.size ≤ 281474976710656) : Calls Tryz.prog 125 #[.string nm, .int .i64 t, .slice u.a u.n u.c] w fun e w' => ∃ s : Sl, e = .returned (.agg #[.string nm, .int .i64 t, .slice s.a s.n s.c]) ∧ Owns w' w.heap.size s.v ds ∧ w.grownBy w' none := by
 obtain ⟨w0, hw0⟩ : ∃ w0, w0 = w.alloc (.cells #[.string ⟨#[]⟩, .int .i64 0, .slice none 0 0] 53) := ⟨_, rfl⟩
 have g0 : Hid (w.grownBy w0 none) := by show w.grownBy w0 none; rw [hw0]; exact jab _ _
 have hb0 := heap_alloc_new w (.cells #[.string ⟨#[]⟩, .int .i64 0, .slice none 0 0] 53)
 rw [← hw0] at hb0
 have BX : Hid (∀ wx, w0.grownBy wx none → wx.heap[w.heap.size]? = some (.cells #[.string ⟨#[]⟩, .int .i64 0, .slice none 0 0] 53 (0, 0))) := fun wx hg => jad hb0 hg
 have SC := jae (jcM nm w0 hs)
 have HD := jae hd
 clear hb0 hd
 go_enter Tryz.func125, Tryz.ntmps125
 go_wp2_with fail
 rw [← hw0]
 clear hw0
 refine SC.out.mono ?_
 rintro e w1 ⟨rfl, hg1⟩
 have CL := jae (jjm u ds w1 (HD.out.more (jaa g0.out hg1)))
 go_wp2_with (first | (go_at_call 111; refine CL.out.mono ?_; rintro e w2 ⟨⟨s1, s2, s3⟩, rfl, ho, hg2⟩; simp only; have g2 := jaa hg1 hg2; have B2 := BX.out w2 g2; obtain ⟨f0, f1, f2⟩ := jaJ B2; have c0 := (cell_of_row _ _ 0 _ _ (0, 0) B2).trans rfl; have c1 := (cell_of_row _ _ 1 _ _ (0, 0) B2).trans rfl; have c2 := (cell_of_row _ _ 2 _ _ (0, 0) B2).trans rfl) | fail)
 obtain ⟨hX, gX⟩ := ja5 (.string nm) (.int .i64 t) (.slice s1 s2 s3) B2
 have gf : w.grownBy _ none := jas (jaa g0.out g2) gX (Nat.le_refl _)
 refine bodyPost_ret (jhO rfl _ _ w.heap.size rfl hX) rfl ?_
 refine ⟨⟨s1, s2, s3⟩, rfl, ?_, gf⟩
 have hb : w.heap.size < w1.heap.size := by have := (BX.out w1 hg1); exact (Array.getElem?_eq_some_iff.1 this).1
 have h := (ho.base_le (b' := w.heap.size + 1) (by omega)).more gX (by
  rcases ho.1.2 with ⟨e, -⟩ | ⟨gg, cap, cur, e, hgg, -⟩
  ·exact .inl (by rw [e]; rfl)
  ·exact .inr (by rw [e]; simp [Value.ownBlock]; omega))
 exact h.base_le (by omega)
end Go.Proofs.YtkefdkboejimeaaGreatDoor
namespace Go.Proofs.YtkefdkboejimeaaGreatDoor
open Go.RowKit
def jbo (ck : Int) (lens : Bool) (vs : List (Val × List Int)) (tS : R Int) (dS : R (List Int)) (os : List ByteArray) : R (Int × List Int) :=
 (jhB ck).bind (fun _ => (jaz lens).bind (fun _ => (jek vs).bind (fun _ => tS.bind (fun t => dS.bind (fun d => (ja9 d).bind (fun _ => (jda t os).bind (fun _ => .ok (t, d))))))))
theorem jhP {s : ByteArray} (h : jav s = true) : s.toList ∈ jgF := by
 unfold jav at h
 rw [List.any_eq_true] at h
 obtain ⟨n, hn, he⟩ := h
 have e : n = s.toList := by simpa using he
 rw [← e]
 revert n
 unfold jih jgF
 intro n hn _ _
 exact hn
theorem jjt (o : Option Atr) : ∀ s ∈ jdp o, jav s = true := by
 intro s hs
 unfold jdp at hs
 cases o with
 | none => simp at hs
 | some a =>
  simp only at hs
  split at hs
  ·rename_i hall
   obtain ⟨p, hp, rfl⟩ := List.mem_map.1 hs
   exact List.all_eq_true.1 hall p hp
  ·simp at hs
theorem jk7 {xs : List Atr} (h : ∀ a ∈ xs, a.s.size ≤ 1048576) (P : Atr → Bool) : (jdp (xs.find? P)).length ≤ 1048577 := by
 unfold jdp
 cases hf : xs.find? P with
 | none => simp
 | some a =>
  have h1 := h a (List.mem_of_find?_eq_some hf)
  have h2 := jho a.s.data.toList
  simp only
  split
  ·rw [List.length_map]
   have h3 : a.s.data.toList.length = a.s.size := by rw [Array.length_toList]; rfl
   omega
  ·simp
theorem jcB (n : Nod) (A : At) (ins : List ByteArray) (u : Sl) (vs : List (Val × List Int)) (w : World) (hl : Laid w) (hni : NodeIn w n ins A.xs A.cs) (hv : ValsIn w u.v vs) (ho : n.out.size ≤ 281474976710656) (tS : R Int) (dS : R (List Int))
    (TM : jbl (jcf n.op) n.op ins n.out A.xs A.cs = 0 → vs.length = ins.length → jek vs = .ok () → ∀ wx, w.grownBy wx none → Calls Tryz.prog 121 #[jaL n, .slice u.a u.n u.c] wx (jbj wx tS fun t v _ => v = .int .i64 t ∧ jaV t = true))
    (DM : jbl (jcf n.op) n.op ins n.out A.xs A.cs = 0 → vs.length = ins.length → jek vs = .ok () → ∀ wx, w.grownBy wx none → Calls Tryz.prog 122 #[jaL n, .slice u.a u.n u.c] wx (jbj wx dS jc8)) :
    Calls Tryz.prog 95 #[jaL n, .slice u.a u.n u.c] w (jbj w (jbo (jbl (jcf n.op) n.op ins n.out A.xs A.cs) (decide (vs.length = ins.length)) vs tS dS (jdp (A.xs.find? (isA ⟨#[116, 104, 101, 110]⟩ 3)))) fun r v w' => ∃ s : Sl, v = .agg #[.string n.out, .int .i64 r.1, .slice s.a s.n s.c] ∧ Owns w' w.heap.size s.v r.2) := by
     obtain ⟨xa, xc, e1, q1, q2, q3⟩ := hv.vals.form
     rw [List.length_map] at e1 q1 q3
     obtain ⟨ua, un, uc⟩ := u
     simp only [Sl.v, Value.slice.injEq] at e1
     obtain ⟨rfl, rfl, rfl⟩ := e1
     have CK := jae (fun (wx : World) (hg : w.grownBy wx none) => jmK n ins A.xs A.cs wx (hl.more hg) (hni.more hg))
     have TH := jae (fun (wx : World) (hg : w.grownBy wx none) => jil n A.xs wx (hl.more hg) (hni.more hg).av (fun a ha => by have := hni.short a ha; omega))
     have IL := jae hni.ins
     obtain ⟨ck, hck⟩ : ∃ c, c = jbl (jcf n.op) n.op ins n.out A.xs A.cs := ⟨_, rfl⟩
     obtain ⟨os, hos⟩ : ∃ os, os = jdp (A.xs.find? (isA ⟨#[116, 104, 101, 110]⟩ 3)) := ⟨_, rfl⟩
     have OS : Hid (∀ s ∈ os, jav s = true) := by show ∀ s ∈ os, _; rw [hos]; exact jjt _
     have OsB : Hid (os.length ≤ 1048577) := by show os.length ≤ _; rw [hos]; exact jk7 hni.short _
     rw [← hck] at CK TM DM ⊢
     rw [← hos] at TH ⊢
     have HV := jae hv
     have HTM := jae TM
     have HDM := jae DM
     clear hck hos hl hni hv TM DM
     obtain ⟨op, nam, ⟨ia, il, ic⟩, out, ⟨ao, al, cap⟩⟩ := n
     unfold jaL at CK TH HTM HDM ⊢
     simp only at CK TH HTM HDM IL ho ⊢
     obtain ⟨ix, icc, ei, i1, i2, i3⟩ := IL.out.form
     simp only [Sl.v, Value.slice.injEq] at ei
     obtain ⟨rfl, rfl, rfl⟩ := ei
     obtain ⟨w0, hw0⟩ : ∃ w0, w0 = (w.alloc (.cells #[.string op, .string nam, .slice ia ins.length ic, .string out, .slice ao al cap] 35)).alloc (.cells #[.string ⟨#[]⟩, .int .i64 0, .slice none 0 0] 53) := ⟨_, rfl⟩
     have g0 : Hid (w.grownBy w0 none) := by show w.grownBy w0 none; rw [hw0]; exact jaa (jab _ _) (jab _ _)
     have hbx := jax w (.cells #[.string op, .string nam, .slice ia ins.length ic, .string out, .slice ao al cap] 35) (.cells #[.string ⟨#[]⟩, .int .i64 0, .slice none 0 0] 53)
     rw [← hw0] at hbx
     have BX : Hid (∀ wx, w0.grownBy wx none → wx.heap[w.heap.size]? = some (.cells #[.string op, .string nam, .slice ia ins.length ic, .string out, .slice ao al cap] 35 (0, 0)) ∧ wx.heap[w.heap.size + 1]? = some (.cells #[.string ⟨#[]⟩, .int .i64 0, .slice none 0 0] 53 (0, 0))) := fun wx hg => ⟨jad hbx.1 hg, jad hbx.2 hg⟩
     clear hbx
     go_enter Tryz.func95, Tryz.ntmps95
     go_wp2_with fail
     rw [← hw0]
     clear hw0
     refine (CK.out w0 g0.out).mono ?_
     rintro e w1 ⟨rfl, hg1⟩
     have G1 := jae hg1
     clear hg1 CK
     by_cases hc0 : ck = 0
     ·subst hc0
      obtain ⟨n0, n1, n2, n3, n4⟩ := jai (n := ⟨op, nam, ⟨ia, ins.length, ic⟩, out, ⟨ao, al, cap⟩⟩) (BX.out w1 G1.out).1
      by_cases hlen : vs.length = ins.length
      ·have bl : ((vs.length : Int) == (ins.length : Int)) = true := by simp [hlen]
       have TM2 := jae (HTM.out rfl hlen)
       have DM2 := jae (HDM.out rfl hlen)
       have E0 : Hid (jbo 0 (decide (vs.length = ins.length)) vs tS dS os = (jek vs).bind (fun _ => tS.bind (fun t => dS.bind (fun d => (ja9 d).bind (fun _ => (jda t os).bind (fun _ => .ok (t, d))))))) := by show _ = _; unfold jbo; simp [jhB, jaz, hlen]; rfl
       clear hlen HTM HDM
       go_wp2_with (first | (go_at_call 116; refine (jfU _).mono ?_; rintro e w' ⟨rfl, rfl⟩) | (go_at_call 118; refine (jaT _).mono ?_; rintro e w' ⟨rfl, rfl⟩) | fail)
       clear n0 n1 n2 n3 n4 bl
       go_loopw [25] (fun i wr => ∃ k : Nat, k ≤ vs.length ∧ i = .int .i64 k ∧ jek (vs.drop k) = jek vs ∧ w0.grownBy wr none) (fun i _ => vs.length - (intOf i).toNat)
       case atStart => exact ⟨0, Nat.zero_le _, rfl, by rw [List.drop_zero], G1.out⟩
       case round =>
        obtain ⟨k, hk, rfl, hst, hg⟩ := hrel
        have HG := jae hg
        by_cases hkl : k < vs.length
        ·obtain ⟨b, off, rfl⟩ := HV.out.vals.addr (k := k) (by rw [List.length_map]; exact hkl)
         obtain ⟨y0, y1, y2⟩ := (HV.out.more (jaa g0.out hg)).vals.val k (by rw [List.length_map]; exact hkl)
         have HY := jae (HV.out.dims vs[k] (List.getElem_mem hkl))
         rw [List.getElem_map] at y0 y1 y2
         rw [jk5 hkl] at hst
         obtain ⟨p, hp⟩ : ∃ p, p = vs[k] := ⟨_, rfl⟩
         rw [← hp] at y0 y1 y2 HY hst
         obtain ⟨⟨vn, vt, ⟨da, dn, dc⟩⟩, y⟩ := p
         simp only at y0 y1 y2 HY hst
         obtain ⟨w3, hw3⟩ : ∃ w3, w3 = wr.alloc (.cells #[.string vn, .int .i64 vt, .slice da dn dc] 53) := ⟨_, rfl⟩
         have g3 : Hid (w0.grownBy w3 none) := by show w0.grownBy w3 none; rw [hw3]; exact jaa hg (jab _ _)
         have hb3 := heap_alloc_new wr (.cells #[.string vn, .int .i64 vt, .slice da dn dc] 53)
         rw [← hw3] at hb3
         have v1 : w3.cell? ⟨wr.heap.size, 1, none⟩ = some (.int .i64 vt) := (cell_of_row _ _ 1 _ _ (0, 0) hb3).trans rfl
         have v2 : w3.cell? ⟨wr.heap.size, 2, none⟩ = some (.slice da dn dc) := (cell_of_row _ _ 2 _ _ (0, 0) hb3).trans rfl
         have TY := jae (joO vt w3)
         have CO := jae (jeM _ y w3 (HY.out.more (jaa g0.out g3.out)))
         simp only [Sl.v] at CO
         have HST := jae hst
         clear hb3 hp hg hst
         go_wp2_with fail
         rw [← hw3]
         clear hw3 y0 y1 y2
         cases ht : jhd vt with
         | error c =>
          rw [ht] at TY
          have E : Hid (jbo 0 (decide (vs.length = ins.length)) vs tS dS os = .error c) := by show _ = _; rw [E0.out, ← HST.out, ht]; rfl
          clear ht
          refine TY.out.mono ?_
          rintro e w' ⟨hg, rfl⟩
          exact ⟨rfl, jam E.out (jaa (jaa g0.out g3.out) hg)⟩
         | ok tu =>
          rw [ht] at TY
          have HST2 : Hid ((ja9 y).bind (fun _ => jek (vs.drop (k + 1))) = jek vs) := by show _ = _; rw [← HST.out, ht]; rfl
          clear ht HST
          cases hc : ja9 y with
          | error c =>
           rw [hc] at CO
           have E : Hid (jbo 0 (decide (vs.length = ins.length)) vs tS dS os = .error c) := by show _ = _; rw [E0.out, ← HST2.out, hc]; rfl
           clear hc
           refine TY.out.mono ?_
           rintro e w' ⟨-, v, rfl, rfl, rfl⟩
           go_wp2_with (first | (go_at_call 120; refine CO.out.mono ?_; rintro e w' ⟨hg, rfl⟩) | fail)
           exact ⟨rfl, jam E.out (jaa (jaa g0.out g3.out) hg)⟩
          | ok cn =>
           rw [hc] at CO
           have HST3 : Hid (jek (vs.drop (k + 1)) = jek vs) := by show _ = _; rw [← HST2.out, hc]; rfl
           clear hc HST2
           refine TY.out.mono ?_
           rintro e w' ⟨-, v, rfl, rfl, rfl⟩
           go_wp2_with (first | (go_at_call 120; refine CO.out.mono ?_; rintro e w' ⟨-, v, rfl, rfl, rfl⟩) | fail)
           go_roundw
           case rel => exact ⟨k + 1, by omega, by go_num, HST3.out, g3.out⟩
           case measure => simp [intOf]; omega
        ·have hvin : jek vs = .ok () := by rw [← hst, List.drop_of_length_le (by omega)]; rfl
         have E1 : Hid (jbo 0 (decide (vs.length = ins.length)) vs tS dS os = tS.bind (fun t => dS.bind (fun d => (ja9 d).bind (fun _ => (jda t os).bind (fun _ => .ok (t, d)))))) := by show _ = _; rw [E0.out, hvin]; rfl
         have TM3 := jae (TM2.out hvin wr (jaa g0.out hg))
         have DM3 := jae (fun wx hx => DM2.out hvin wx hx)
         obtain ⟨n0, n1, n2, n3, n4⟩ := jai (n := ⟨op, nam, ⟨ia, ins.length, ic⟩, out, ⟨ao, al, cap⟩⟩) (BX.out wr hg).1
         clear hst hg hvin TM2 DM2 E0
         go_wp2_with fail
         cases ht : tS with
         | error c =>
          rw [ht] at TM3
          have E : Hid (jbo 0 (decide (vs.length = ins.length)) vs tS dS os = .error c) := by show _ = _; rw [E1.out, ht]; rfl
          refine TM3.out.mono ?_
          rintro e w' ⟨hg, rfl⟩
          exact ⟨rfl, jam E.out (jaa (jaa g0.out HG.out) hg)⟩
         | ok tt =>
          rw [ht] at TM3
          have E2 : Hid (jbo 0 (decide (vs.length = ins.length)) vs tS dS os = dS.bind (fun d => (ja9 d).bind (fun _ => (jda tt os).bind (fun _ => .ok (tt, d))))) := by show _ = _; rw [E1.out, ht]; rfl
          refine TM3.out.mono ?_
          rintro e w4 ⟨hg4, v, rfl, rfl, htt⟩
          have G4 := jae (jaa HG.out hg4)
          have D4 := jae (DM3.out w4 (jaa g0.out G4.out))
          obtain ⟨n0, n1, n2, n3, n4⟩ := jai (n := ⟨op, nam, ⟨ia, ins.length, ic⟩, out, ⟨ao, al, cap⟩⟩) (BX.out w4 G4.out).1
          clear hg4 TM3 ht
          go_wp2_with fail
          cases hd : dS with
          | error c =>
           rw [hd] at D4
           have E : Hid (jbo 0 (decide (vs.length = ins.length)) vs tS dS os = .error c) := by show _ = _; rw [E2.out, hd]; rfl
           refine D4.out.mono ?_
           rintro e w' ⟨hg, rfl⟩
           exact ⟨rfl, jam E.out (jaa (jaa g0.out G4.out) hg)⟩
          | ok dd =>
           rw [hd] at D4
           have E3 : Hid (jbo 0 (decide (vs.length = ins.length)) vs tS dS os = (ja9 dd).bind (fun _ => (jda tt os).bind (fun _ => .ok (tt, dd)))) := by show _ = _; rw [E2.out, hd]; rfl
           refine D4.out.mono ?_
           rintro e w5 ⟨hg5, v, rfl, ⟨s1, s2, s3⟩, rfl, hs⟩
           have G5 := jae (jaa G4.out hg5)
           have CO := jae (jeM _ dd w5 hs)
           have HS := jae hs
           simp only [Sl.v] at CO ⊢
           obtain ⟨n0, n1, n2, n3, n4⟩ := jai (n := ⟨op, nam, ⟨ia, ins.length, ic⟩, out, ⟨ao, al, cap⟩⟩) (BX.out w5 G5.out).1
           clear hg5 D4 hd hs DM3
           have T6 := jae (TH.out w5 (jaa g0.out G5.out))
           cases hc : ja9 dd with
           | error c =>
            rw [hc] at CO
            have E : Hid (jbo 0 (decide (vs.length = ins.length)) vs tS dS os = .error c) := by show _ = _; rw [E3.out, hc]; rfl
            clear hc
            go_wp2_with (first | (go_at_call 120; refine CO.out.mono ?_; rintro e w' ⟨hg, rfl⟩) | fail)
            exact ⟨rfl, jam E.out (jaa (jaa g0.out G5.out) hg)⟩
           | ok cn =>
            rw [hc] at CO
            have E4 : Hid (jbo 0 (decide (vs.length = ins.length)) vs tS dS os = (jda tt os).bind (fun _ => .ok (tt, dd))) := by show _ = _; rw [E3.out, hc]; rfl
            clear hc
            go_wp2_with (first | (go_at_call 120; refine CO.out.mono ?_; rintro e w' ⟨-, v, rfl, rfl, rfl⟩) | (go_at_call 123; refine T6.out.mono ?_; rintro e w6 ⟨tv, rfl, hown, hg6⟩; obtain ⟨oa, oc, rfl⟩ := jaU.form hown) | fail)
            have G6 := jae (jaa G5.out hg6)
            have HG56 := jae hg6
            have osb := OsB.out
            have LO := jae (jaU.isL (bytes := 16) jeJ hown (by omega))
            clear hown hg6 T6 CO n0 n1 n2 n3 n4
            go_loopw [51] (fun i wr => ∃ k : Nat, k ≤ os.length ∧ i = .int .i64 k ∧ jda tt (os.drop k) = jda tt os ∧ w6.grownBy wr none) (fun i _ => os.length - (intOf i).toNat)
            case atStart => exact ⟨0, Nat.zero_le _, rfl, by rw [List.drop_zero], jaf _⟩
            case round =>
             obtain ⟨k, hk, rfl, hst, hg⟩ := hrel
             have HG2 := jae hg
             by_cases hkl : k < os.length
             ·obtain ⟨ob, of, rfl⟩ := LO.out.addr hkl
              have hc := (LO.out.more hg).at k hkl 0 (by omega)
              rw [Nat.mul_one, Nat.add_zero] at hc
              rw [jjs hkl] at hst
              have hone := OS.out os[k] (List.getElem_mem hkl)
              obtain ⟨o, hoo⟩ : ∃ o, o = os[k] := ⟨_, rfl⟩
              rw [← hoo] at hc hst hone
              have hc' : wr.cell? ⟨ob, of + k, none⟩ = some (.string o) := hc
              have MU := jae (jhN o tt (jhP hone) htt wr)
              have HST := jae hst
              clear hc hoo hst hg hone
              cases h1 : jc9 o.toList tt with
              | true =>
               rw [h1] at MU
               have HST2 : Hid (jda tt (os.drop (k + 1)) = jda tt os) := by show _ = _; rw [← HST.out, h1]; rfl
               clear h1
               go_wp2_with (first | (go_at_call 124; refine MU.out.mono ?_; rintro e w7 ⟨hg7, v, rfl, rfl⟩) | fail)
               go_roundw
               case rel => exact ⟨k + 1, by omega, by go_num, HST2.out, jaa HG2.out hg7⟩
               case measure => simp [intOf]; omega
              | false =>
               rw [h1] at MU
               have E : Hid (jbo 0 (decide (vs.length = ins.length)) vs tS dS os = .error 4) := by show _ = _; rw [E4.out, ← HST.out, h1]; rfl
               clear h1
               go_wp2_with (first | (go_at_call 124; refine MU.out.mono ?_; rintro e w7 ⟨hg7, rfl⟩) | fail)
               exact ⟨rfl, jam E.out (jaa (jaa g0.out G6.out) (jaa HG2.out hg7))⟩
             ·have E5 : Hid (jbo 0 (decide (vs.length = ins.length)) vs tS dS os = .ok (tt, dd)) := by show _ = _; rw [E4.out, ← hst, List.drop_of_length_le (by omega)]; rfl
              have G7 := jae (jaa G6.out hg)
              obtain ⟨n0, n1, n2, n3, n4⟩ := jai (n := ⟨op, nam, ⟨ia, ins.length, ic⟩, out, ⟨ao, al, cap⟩⟩) (BX.out wr G7.out).1
              have NV := jae (jgH out tt ⟨s1, s2, s3⟩ dd wr (HS.out.more (jaa HG56.out hg)) ho)
              simp only at NV
              clear hst hg
              go_wp2_with (first | (go_at_call 125; refine NV.out.mono ?_; rintro e w8 ⟨⟨r1, r2, r3⟩, rfl, hr, hg8⟩; simp only; have G8 := jaa G7.out hg8; have B8 := (BX.out w8 G8).2; obtain ⟨f0, f1, f2⟩ := jaJ B8; have c0 := (cell_of_row _ _ 0 _ _ (0, 0) B8).trans rfl; have c1 := (cell_of_row _ _ 1 _ _ (0, 0) B8).trans rfl; have c2 := (cell_of_row _ _ 2 _ _ (0, 0) B8).trans rfl) | fail)
              obtain ⟨hX, gX⟩ := ja5 (.string out) (.int .i64 tt) (.slice r1 r2 r3) B8
              have gf : w.grownBy _ none := jas (jaa g0.out G8) gX (by omega)
              refine bodyPost_ret (jhO rfl _ _ (w.heap.size + 1) rfl hX) rfl ?_
              refine jbc E5.out gf ⟨⟨r1, r2, r3⟩, rfl, ?_⟩
              have hb : w.heap.size + 1 < wr.heap.size := (Array.getElem?_eq_some_iff.1 (BX.out wr G7.out).2).1
              have h := (hr.base_le (b' := w.heap.size + 2) (by omega)).more gX (by
               rcases hr.1.2 with ⟨e, -⟩ | ⟨gg, cap', cur, e, hgg, -⟩
               ·exact .inl (by rw [e]; rfl)
               ·exact .inr (by rw [e]; simp [Value.ownBlock]; omega))
              exact h.base_le (by omega)
      ·have bl : ((vs.length : Int) == (ins.length : Int)) = false := by simpa using (fun h => hlen (by omega) : ¬ (vs.length : Int) = ins.length)
       have E0 : Hid (jbo 0 (decide (vs.length = ins.length)) vs tS dS os = .error 4) := by show _ = _; unfold jbo; simp [jhB, jaz, hlen]; rfl
       clear hlen
       go_wp2_with (first | (go_at_call 116; refine (jfU _).mono ?_; rintro e w' ⟨rfl, rfl⟩) | (go_at_call 118; refine (ja2 _).mono ?_; rintro e w' ⟨rfl, rfl⟩) | fail)
       exact ⟨rfl, jam E0.out (jaa g0.out G1.out)⟩
     ·have E0 : Hid (jbo ck (decide (vs.length = ins.length)) vs tS dS os = .error ck) := by show _ = _; unfold jbo; simp [jhB, hc0]; rfl
      have HC := jae hc0
      clear hc0
      go_wp2_with (first | (go_at_call 116; refine (jfV _ HC.out _).mono ?_; rintro e w' ⟨rfl, rfl⟩) | fail)
      exact ⟨rfl, jam E0.out (jaa g0.out G1.out)⟩
end Go.Proofs.YtkefdkboejimeaaGreatDoor
namespace Go.Proofs.YtkefdkboejimeaaGreatDoor
open Go.RowKit
theorem jhQ {a b zs : List Int} (h : jbM a b = .ok zs) (ha : a.length ≤ 6) (hb : b.length ≤ 6) : zs.length ≤ 6 := by
 unfold jbM at h
 split at h
 ·rename_i h0
  cases h
  unfold bcR
  rw [if_pos h0, jb2]
  unfold jaS
  omega
 ·cases h
theorem jhR (u v : Sl) (x y : List Int) (w : World) (hx : IsInts w u.v x) (hy : IsInts w v.v y) (hlx : x.length ≤ 6) (hly : y.length ≤ 6) : Calls Tryz.prog 154 #[.slice u.a u.n u.c, .slice v.a v.n v.c] w (jbj w (ja1 x y) jc8) := by
 obtain ⟨ux, uc, eu, c1, c2, c3⟩ := hx.sl
 obtain ⟨ua, un, uu⟩ := u
 simp only [Sl.v, Value.slice.injEq] at eu
 obtain ⟨rfl, rfl, rfl⟩ := eu
 obtain ⟨vx, vc, ev, d1, d2, d3⟩ := hy.sl
 obtain ⟨va, vn, vv⟩ := v
 simp only [Sl.v, Value.slice.injEq] at ev
 obtain ⟨rfl, rfl, rfl⟩ := ev
 simp only
 obtain ⟨i0, hi, hz0, hz1, hz2⟩ := info_parts jcK
 by_cases h2 : 2 ≤ x.length
 ·by_cases h3 : 2 ≤ y.length
  ·obtain ⟨a, ha⟩ : ∃ a, x.length = a + 2 := ⟨x.length - 2, by omega⟩
   obtain ⟨b, hb⟩ : ∃ b, y.length = b + 2 := ⟨y.length - 2, by omega⟩
   have E0 : Hid (ja1 x y = (jaz (x.getD (a + 1) 0 == y.getD b 0)).bind (fun _ => (jbM (x.take a) (y.take b)).bind (fun s => .ok (s ++ [x.getD a 0, y.getD (b + 1) 0])))) := by
    show _ = _
    unfold ja1
    rw [ha, hb]
    simp [jaz]
    rfl
   obtain ⟨xb, xo, rfl, hcx⟩ := hx.get (k := 0) (by omega)
   obtain ⟨yb, yo, rfl, hcy⟩ := hy.get (k := 0) (by omega)
   have x1 := hcx (a + 1) (by omega)
   have x0 := hcx a (by omega)
   have y0 := hcy b (by omega)
   have y1 := hcy (b + 1) (by omega)
   have wx0 := hx.wf (x.getD a 0) (by rw [List.getD, List.getElem?_eq_getElem (by omega)]; exact List.getElem_mem _)
   have wy1 := hy.wf (y.getD (b + 1) 0) (by rw [List.getD, List.getElem?_eq_getElem (by omega)]; exact List.getElem_mem _)
   have SP := jae (fun (wx : World) (hg : w.grownBy wx none) => spread_any ⟨some ⟨xb, xo, none⟩, a, uu⟩ ⟨some ⟨yb, yo, none⟩, b, vv⟩ (x.take a) (y.take b) wx ((hx.front (by show a ≤ x.length; omega)).more hg) ((hy.front (by show b ≤ y.length; omega)).more hg))
   simp only at SP
   obtain ⟨p, hp⟩ : ∃ p, p = x.getD a 0 := ⟨_, rfl⟩
   obtain ⟨q, hq⟩ : ∃ q, q = y.getD (b + 1) 0 := ⟨_, rfl⟩
   obtain ⟨r, hr⟩ : ∃ r, r = x.getD (a + 1) 0 := ⟨_, rfl⟩
   obtain ⟨s, hs⟩ : ∃ s, s = y.getD b 0 := ⟨_, rfl⟩
   rw [← hp] at x0 wx0 E0
   rw [← hq] at y1 wy1 E0
   rw [← hr] at x1 E0
   rw [← hs] at y0 E0
   rw [ha] at c1 ⊢
   rw [hb] at d1 ⊢
   have i7 : decide ((2 : Int) ≤ (b : Int) + 2) = true := by simp; omega
   have i8 : decide ((2 : Int) ≤ (a : Int) + 2) = true := by simp; omega
   have i9 : (a : Int) + 2 - 2 = (a : Int) := by omega
   have i10 : (b : Int) + 2 - 2 = (b : Int) := by omega
   have kw : IntKind.i64.wrap ((a : Int) + 1) = (a : Int) + 1 := by rw [jbA]; unfold wrap64; omega
   have ka : (a : Int) < (a : Int) + 2 := by omega
   have kb : (b : Int) < (b : Int) + 2 := by omega
   have k1 : (a : Int) + 1 < (a : Int) + 2 := by omega
   have k2 : (0 : Int) ≤ (a : Int) + 1 := by omega
   have k3 : ((a : Int) + 1).toNat = a + 1 := by omega
   have j1 : a + 1 < a + 2 := by omega
   have j2 : b < b + 2 := by omega
   have j3 : a < a + 2 := by omega
   have j4 : b + 1 < b + 2 := by omega
   clear hp hq hr hs hcx hcy hx hy ha hb h2 h3 c3 d3
   go_enter Tryz.func154, Tryz.ntmps154
   go_wp2_with (first | (go_at_call 118; refine (jaT _).mono ?_; rintro e w' ⟨rfl, rfl⟩) | fail)
   by_cases hrs : r = s
   ·have brs : (r == s) = true := by simp [hrs]
    have E1 : Hid (ja1 x y = (jbM (x.take a) (y.take b)).bind (fun t => .ok (t ++ [p, q]))) := by show _ = _; rw [E0.out, brs]; rfl
    clear hrs
    go_quiet (first | (go_at_call 118; refine (jaT _).mono ?_; rintro e w' ⟨rfl, rfl⟩; exact ⟨rfl, _, rfl⟩) | fail)
    go_wp2_with fail
    have gq : w.grownBy (w.drewN nq) none := ⟨rfl, rfl, rfl, Nat.le_refl _, fun k hk hn => rfl⟩
    obtain ⟨wq, hwq⟩ : ∃ wq, wq = w.drewN nq := ⟨_, rfl⟩
    rw [← hwq] at gq ⊢
    have x0' := jac x0 gq
    have y1' := jac y1 gq
    have kw2 : IntKind.i64.wrap ((b : Int) + 1) = (b : Int) + 1 := by rw [jbA]; unfold wrap64; omega
    have k4 : (b : Int) + 1 < (b : Int) + 2 := by omega
    have k5 : (0 : Int) ≤ (b : Int) + 1 := by omega
    have k6 : ((b : Int) + 1).toNat = b + 1 := by omega
    have z1 : a ≤ uu := by omega
    have z2 : b ≤ vv := by omega
    clear hwq x1 y0
    cases hk : jbM (x.take a) (y.take b) with
    | error c =>
     have E2 : Hid (ja1 x y = .error c) := by show _ = _; rw [E1.out, hk]; rfl
     rw [hk] at SP
     clear hk
     refine wp_region_held_drew (S := (fun w' => w'.cell? ⟨xb, xo + a, none⟩ = some (.int .i64 p) ∧ w'.cell? ⟨yb, yo + (b + 1), none⟩ = some (.int .i64 q))) (by kernel_rfl) (by go_keep) (fun hHeld => ?_)
     refine tkA 0 ?_
     try simp only [Act.put]
     refine tkA 1 ?_
     try simp only [Act.put]
     refine tkA 2 ?_
     try simp only [Act.put]
     refine tkA 3 ?_
     try simp only [Act.put]
     refine tkA 4 ?_
     try simp only [Act.put]
     refine tkA 5 ?_
     try simp only [Act.put]
     refine tkA 7 ?_
     try simp only [Act.put]
     refine tkA 8 ?_
     try simp only [Act.put]
     refine tkA 9 ?_
     try simp only [Act.put]
     refine tkA 10 ?_
     try simp only [Act.put]
     refine tkA 11 ?_
     try simp only [Act.put]
     refine tkA 12 ?_
     try simp only [Act.put]
     refine tkA 13 ?_
     try simp only [Act.put]
     refine tkA 14 ?_
     try simp only [Act.put]
     refine tkA 15 ?_
     try simp only [Act.put]
     refine wpAnyH_ready (rs := [6, 16]) (by kernel_rfl) (by simp) ?_
     refine AllReadyH.cons rfl (fun K hK => ?_) ?_
     ·skip
      go_simp
      refine (SP.out _ (by first | exact jag gq | exact jaa (jag gq) (jab _ _))).mono ?_
      rintro e wy ⟨hg, rfl⟩
      exact ⟨rfl, jam E2.out (jaa (by first | exact jag gq | exact jaa (jag gq) (jab _ _)) hg)⟩
     refine AllReadyH.cons rfl (fun K hK => ?_) ?_
     ·skip
      go_simp
      refine hK.out _ _ (by first | assumption | go_keep) (fun hHeld => ?_)
      clear hK K
      try simp only [Act.put]
      refine wpAnyH_ready (rs := [6]) (by kernel_rfl) (by simp) ?_
      refine AllReadyH.cons rfl (fun K hK => ?_) ?_
      ·skip
       go_simp
       refine (SP.out _ (by first | exact jag gq | exact jaa (jag gq) (jab _ _))).mono ?_
       rintro e wy ⟨hg, rfl⟩
       exact ⟨rfl, jam E2.out (jaa (by first | exact jag gq | exact jaa (jag gq) (jab _ _)) hg)⟩
      exact AllReadyH.nil
     exact AllReadyH.nil
    | ok zs =>
     have E2 : Hid (ja1 x y = .ok (zs ++ [p, q])) := by show _ = _; rw [E1.out, hk]; rfl
     have hzl : zs.length ≤ 6 := jhQ hk (by simp; omega) (by simp; omega)
     rw [hk] at SP
     clear hk
     refine wp_region_held_drew (S := (fun w' => w'.cell? ⟨xb, xo + a, none⟩ = some (.int .i64 p) ∧ w'.cell? ⟨yb, yo + (b + 1), none⟩ = some (.int .i64 q))) (by kernel_rfl) (by go_keep) (fun hHeld => ?_)
     refine tkA 0 ?_
     try simp only [Act.put]
     refine tkA 1 ?_
     try simp only [Act.put]
     refine tkA 2 ?_
     try simp only [Act.put]
     refine tkA 3 ?_
     try simp only [Act.put]
     refine tkA 4 ?_
     try simp only [Act.put]
     refine tkA 5 ?_
     try simp only [Act.put]
     refine tkA 7 ?_
     try simp only [Act.put]
     refine tkA 8 ?_
     try simp only [Act.put]
     refine tkA 9 ?_
     try simp only [Act.put]
     refine tkA 10 ?_
     try simp only [Act.put]
     refine tkA 11 ?_
     try simp only [Act.put]
     refine tkA 12 ?_
     try simp only [Act.put]
     refine tkA 13 ?_
     try simp only [Act.put]
     refine tkA 14 ?_
     try simp only [Act.put]
     refine tkA 15 ?_
     try simp only [Act.put]
     refine wpAnyH_ready (rs := [6, 16]) (by kernel_rfl) (by simp) ?_
     refine AllReadyH.cons rfl (fun K hK => ?_) ?_
     ·skip
      go_simp
      refine (SP.out _ (by first | exact jag gq | exact jaa (jag gq) (jab _ _))).mono ?_
      rintro e w2 ⟨hg2, v, rfl, ⟨sa, sn, sc⟩, rfl, ho⟩
      have gw := jaa (by first | exact jag gq | exact jaa (jag gq) (jab _ _)) hg2
      have xk := jac x0 gw
      have yk := jac y1 gw
      try dsimp only
      refine hK.out _ _ (by first | assumption | go_keep) (fun hHeld => ?_)
      clear hK K
      try simp only [Act.put]
      refine wpAnyH_ready (rs := [16]) (by kernel_rfl) (by simp) ?_
      refine AllReadyH.cons rfl (fun K hK => ?_) ?_
      ·skip
       go_simp
       refine hK.out _ _ (by first | assumption | go_keep) (fun hHeld => ?_)
       clear hK K
       try simp only [Act.put]
       refine wpAnyH_ready (rs := [17]) (by kernel_rfl) (by simp) ?_
       refine AllReadyH.cons rfl (fun K hK => ?_) ?_
       ·skip
        have OW2 := ho.base_le (show w.heap.size ≤ _ by have := (jag gq).size; simp at this ⊢; omega)
        have hsn : sn = zs.length := by obtain ⟨a1, c4, e, -⟩ := ho.ints.sl; simp only [Sl.v, Value.slice.injEq] at e; exact e.2.1
        subst hsn
        refine step_append_lies (w2.alloc (.cells #[.int .i64 p, .int .i64 q] 3)) (by rfl) (.tmp 39) (.tmp 49) 22 (by rfl) w.heap.size 3 i0 (.int .i64 0) 1 8 Tryz.underlying22 hi hz0 hz1 hz2 (by rfl) (by decide) (.slice sa zs.length sc) zs.length (zs.map (Value.int .i64)) (by rfl) ((OW2.new (jab _ _)).1) ⟨w2.heap.size, 0, none⟩ 2 2 [.int .i64 p, .int .i64 q] (by rfl) (by rfl) ?_ (by simp [Value.oneCell']) (by decide) (by simp only [maxLen]; omega) (by omega) (by have := gw.size; simp; omega) _ rfl ?_
        ·intro j u hu
         rw [Addr.add_lit, Nat.zero_add]
         match j, hu with
         | 0, hu => rw [cell_of_row _ _ 0 _ _ (0, 0) (heap_alloc_new w2 _)]; exact hu
         | 1, hu => rw [cell_of_row _ _ 1 _ _ (0, 0) (heap_alloc_new w2 _)]; exact hu
         | j + 2, hu => simp at hu
        intro g gcap w4 hown hgrow _ _
        have gw4 : w.grownBy w4 none := jah (jaa gw (jab _ _)) hgrow (fun r e => (OW2.lt r e).1)
        have xk4 := jac x0 gw4
        have yk4 := jac y1 gw4
        have OW4 : Owns w4 w.heap.size (.slice (some ⟨g, 0, none⟩) (zs.length + 2) gcap) (zs ++ [p, q]) := ⟨by rw [List.length_append, List.map_append]; exact hown, by rw [List.length_append]; simp only [List.length_cons, List.length_nil]; omega, fun z hz => by rcases List.mem_append.1 hz with h | h; exact ho.2.2 z h; simp at h; rcases h with rfl | rfl <;> assumption⟩
        refine hK.out _ _ (by first | assumption | go_keep) (fun hHeld => ?_)
        clear hK K
        try simp only [Act.put]
        refine tkA 18 ?_
        try simp only [Act.put]
        refine wpAnyH_done (by kernel_rfl) ?_ _
        try go_simp
        go_wp2
        go_ret
        exact jbc E2.out gw4 ⟨⟨some ⟨g, 0, none⟩, zs.length + 2, gcap⟩, rfl, OW4.ints⟩
       exact AllReadyH.nil
      exact AllReadyH.nil
     refine AllReadyH.cons rfl (fun K hK => ?_) ?_
     ·skip
      go_simp
      refine hK.out _ _ (by first | assumption | go_keep) (fun hHeld => ?_)
      clear hK K
      try simp only [Act.put]
      refine wpAnyH_ready (rs := [6]) (by kernel_rfl) (by simp) ?_
      refine AllReadyH.cons rfl (fun K hK => ?_) ?_
      ·skip
       go_simp
       refine (SP.out _ (by first | exact jag gq | exact jaa (jag gq) (jab _ _))).mono ?_
       rintro e w2 ⟨hg2, v, rfl, ⟨sa, sn, sc⟩, rfl, ho⟩
       have gw := jaa (by first | exact jag gq | exact jaa (jag gq) (jab _ _)) hg2
       have xk := jac x0 gw
       have yk := jac y1 gw
       have hn0 := jac (cell_of_row _ _ 0 _ _ (0, 0) (heap_alloc_new wq.drew (.cells #[.int .i64 p, .int .i64 q] 3))) hg2
       have hn1 := jac (cell_of_row _ _ 1 _ _ (0, 0) (heap_alloc_new wq.drew (.cells #[.int .i64 p, .int .i64 q] 3))) hg2
       try dsimp only
       refine hK.out _ _ (by first | assumption | go_keep) (fun hHeld => ?_)
       clear hK K
       try simp only [Act.put]
       refine wpAnyH_ready (rs := [17]) (by kernel_rfl) (by simp) ?_
       refine AllReadyH.cons rfl (fun K hK => ?_) ?_
       ·skip
        have OW2 := ho.base_le (show w.heap.size ≤ _ by have := (jag gq).size; simp at this ⊢; omega)
        have hsn : sn = zs.length := by obtain ⟨a1, c4, e, -⟩ := ho.ints.sl; simp only [Sl.v, Value.slice.injEq] at e; exact e.2.1
        subst hsn
        refine step_append_lies w2 (by rfl) (.tmp 39) (.tmp 49) 22 (by rfl) w.heap.size 3 i0 (.int .i64 0) 1 8 Tryz.underlying22 hi hz0 hz1 hz2 (by rfl) (by decide) (.slice sa zs.length sc) zs.length (zs.map (Value.int .i64)) (by rfl) (OW2.1) ⟨wq.drew.heap.size, 0, none⟩ 2 2 [.int .i64 p, .int .i64 q] (by rfl) (by rfl) ?_ (by simp [Value.oneCell']) (by decide) (by simp only [maxLen]; omega) (by omega) (by have := gw.size; simp; omega) _ rfl ?_
        ·intro j u hu
         rw [Addr.add_lit, Nat.zero_add]
         match j, hu with
         | 0, hu => rw [hn0]; exact hu
         | 1, hu => rw [hn1]; exact hu
         | j + 2, hu => simp at hu
        intro g gcap w4 hown hgrow _ _
        have gw4 : w.grownBy w4 none := jah gw hgrow (fun r e => (OW2.lt r e).1)
        have xk4 := jac x0 gw4
        have yk4 := jac y1 gw4
        have OW4 : Owns w4 w.heap.size (.slice (some ⟨g, 0, none⟩) (zs.length + 2) gcap) (zs ++ [p, q]) := ⟨by rw [List.length_append, List.map_append]; exact hown, by rw [List.length_append]; simp only [List.length_cons, List.length_nil]; omega, fun z hz => by rcases List.mem_append.1 hz with h | h; exact ho.2.2 z h; simp at h; rcases h with rfl | rfl <;> assumption⟩
        refine hK.out _ _ (by first | assumption | go_keep) (fun hHeld => ?_)
        clear hK K
        try simp only [Act.put]
        refine tkA 18 ?_
        try simp only [Act.put]
        refine wpAnyH_done (by kernel_rfl) ?_ _
        try go_simp
        go_wp2
        go_ret
        exact jbc E2.out gw4 ⟨⟨some ⟨g, 0, none⟩, zs.length + 2, gcap⟩, rfl, OW4.ints⟩
       exact AllReadyH.nil
      exact AllReadyH.nil
     exact AllReadyH.nil
   ·have brs : (r == s) = false := by simpa using hrs
    have E1 : Hid (ja1 x y = .error 4) := by show _ = _; rw [E0.out, brs]; rfl
    clear hrs
    refine wp_region_held_drew (S := (fun w' => w'.cell? ⟨xb, xo + (a + 1), none⟩ = some (.int .i64 r) ∧ w'.cell? ⟨yb, yo + b, none⟩ = some (.int .i64 s))) (by kernel_rfl) (by go_keep) (fun hHeld => ?_)
    refine tkA 0 ?_
    try simp only [Act.put]
    refine tkA 1 ?_
    try simp only [Act.put]
    refine tkA 2 ?_
    try simp only [Act.put]
    refine tkA 3 ?_
    try simp only [Act.put]
    refine tkA 4 ?_
    try simp only [Act.put]
    refine tkA 5 ?_
    try simp only [Act.put]
    refine tkA 6 ?_
    try simp only [Act.put]
    refine tkA 7 ?_
    try simp only [Act.put]
    refine tkA 8 ?_
    try simp only [Act.put]
    refine tkA 9 ?_
    try simp only [Act.put]
    refine rdA 10 fun K hK => ?_
    go_simp
    refine (ja2 _).mono ?_
    rintro e wy ⟨rfl, rfl⟩; exact ⟨rfl, jam E1.out (jag (jaf _))⟩
  ·have b3 : decide ((2 : Int) ≤ (y.length : Int)) = false := by simp; omega
   have h2' : (2 : Int) ≤ (x.length : Int) := by omega
   have E1 : Hid (ja1 x y = .error 4) := by show _ = _; unfold ja1; simp [jaz, h3]; rfl
   clear h2 h3
   go_enter Tryz.func154, Tryz.ntmps154
   go_wp2_with (first | (go_at_call 118; refine (ja2 _).mono ?_; rintro e w' ⟨rfl, rfl⟩) | fail)
   exact ⟨rfl, jam E1.out (jaf _)⟩
 ·have b2 : decide ((2 : Int) ≤ (x.length : Int)) = false := by simp; omega
  have E1 : Hid (ja1 x y = .error 4) := by show _ = _; unfold ja1; simp [jaz, h2]; rfl
  clear h2
  go_enter Tryz.func154, Tryz.ntmps154
  go_wp2_with (first | (go_at_call 118; refine (ja2 _).mono ?_; rintro e w' ⟨rfl, rfl⟩) | fail)
  exact ⟨rfl, jam E1.out (jaf _)⟩
end Go.Proofs.YtkefdkboejimeaaGreatDoor
namespace Go.Proofs.YtkefdkboejimeaaGreatDoor
open Go.RowKit
theorem jo8 {a b : List Int} {k : Nat} (_hk : k < a.length) (_hl : a.length = b.length) (h : a.getD k 0 ≠ b.getD k 0) : a ≠ b := by
 rintro rfl
 exact h rfl
theorem jo9 {a b : List Int} (hl : a.length = b.length) (h : ∀ t, t < a.length → a.getD t 0 = b.getD t 0) : a = b := by
 refine List.ext_getElem hl fun i h1 h2 => ?_
 have := h i h1
 simpa [List.getD, h1, h2] using this
theorem jgk (u v : Sl) (a b : List Int) (w : World) (ha : IsInts w u.v a) (hb : IsInts w v.v b) : Calls Tryz.prog 72 #[.slice u.a u.n u.c, .slice v.a v.n v.c] w fun e w' => e = .returned (.bool (decide (a = b))) ∧ ∃ n, w' = w.drewN n := by
 obtain ⟨ux, uc, eu, c1, c2, c3⟩ := ha.sl
 obtain ⟨ua, un, uu⟩ := u
 simp only [Sl.v, Value.slice.injEq] at eu
 obtain ⟨rfl, rfl, rfl⟩ := eu
 obtain ⟨vx, vc, ev, d1, d2, d3⟩ := hb.sl
 obtain ⟨va, vn, vv⟩ := v
 simp only [Sl.v, Value.slice.injEq] at ev
 obtain ⟨rfl, rfl, rfl⟩ := ev
 simp only
 have HA := jae ha
 have HB := jae hb
 clear ha hb
 by_cases hl : a.length = b.length
 ·have b0 : ((a.length : Int) != (b.length : Int)) = false := by simp [hl]
  have HL := jae hl
  clear hl
  go_enter Tryz.func72, Tryz.ntmps72
  go_wp2
  go_loopw [13] (fun i wr => ∃ k n : Nat, k ≤ a.length ∧ i = .int .i64 k ∧ (∀ t, t < k → a.getD t 0 = b.getD t 0) ∧ wr = w.drewN n) (fun i _ => a.length - (intOf i).toNat)
  case atStart => exact ⟨0, 0, Nat.zero_le _, rfl, fun t h => absurd h (by omega), rfl⟩
  case round =>
   obtain ⟨k, n, hk, rfl, hp, rfl⟩ := hrel
   have HP := jae hp
   clear hp
   by_cases hkl : k < a.length
   ·have hkb : k < b.length := by have := HL.out; omega
    obtain ⟨ab, ao, rfl, hca⟩ := HA.out.get hkl
    obtain ⟨bb, bo, rfl, hcb⟩ := HB.out.get hkb
    have gq : w.grownBy (w.drewN n) none := ⟨rfl, rfl, rfl, Nat.le_refl _, fun k hk hn => rfl⟩
    have h1 := jac (hca k hkl) gq
    have h2 := jac (hcb k hkb) gq
    have i1 : (k : Int) < (a.length : Int) := by omega
    have i2 : (k : Int) < (b.length : Int) := by omega
    obtain ⟨p, hp⟩ : ∃ p, p = a.getD k 0 := ⟨_, rfl⟩
    obtain ⟨q, hq⟩ : ∃ q, q = b.getD k 0 := ⟨_, rfl⟩
    rw [← hp] at h1
    rw [← hq] at h2
    have HPP := jae hp
    have HQQ := jae hq
    obtain ⟨wq, hwq⟩ : ∃ wq, wq = w.drewN n := ⟨_, rfl⟩
    rw [← hwq] at h1 h2 ⊢
    have HW := jae hwq
    clear hp hq hca hcb gq hwq
    by_cases hd : p = q
    ·have bd : (p != q) = false := by simp [hd]
     have HD := jae hd
     clear hd
     go_wp2_with fail
     go_quiet (fail)
     go_wp2_with fail
     go_roundw
     case rel =>
      refine ⟨k + 1, n + nq, by omega, by go_num, fun t ht => ?_, by rw [HW.out]; simp [World.drewN, Nat.add_assoc]⟩
      rcases jbe ht with h | rfl
      ·exact HP.out t h
      ·rw [← HPP.out, ← HQQ.out]; exact HD.out
     case measure => simp [intOf]; omega
    ·have bd : (p != q) = true := by simpa using hd
     have E : Hid (decide (a = b) = false) := by show _ = _; exact decide_eq_false (jo8 hkl HL.out (by rw [← HPP.out, ← HQQ.out]; exact hd))
     clear hd
     go_wp2_with fail
     go_quiet (fail)
     go_wp2
     go_ret
     exact ⟨by rw [E.out]; rfl, n + nq, by rw [HW.out]; simp [World.drewN, Nat.add_assoc]⟩
   ·have E : Hid (decide (a = b) = true) := by show _ = _; exact decide_eq_true (jo9 HL.out (fun t ht => HP.out t (by omega)))
    go_wp2
    go_ret
    exact ⟨by rw [E.out]; rfl, n, rfl⟩
 ·have b0 : ((a.length : Int) != (b.length : Int)) = true := by simpa using (fun h => hl (by omega) : ¬ (a.length : Int) = b.length)
  have E : Hid (decide (a = b) = false) := by show _ = _; exact decide_eq_false (fun h => hl (by rw [h]))
  clear hl
  go_enter Tryz.func72, Tryz.ntmps72
  go_wp2
  go_ret
  exact ⟨by rw [E.out]; rfl, 0, rfl⟩
end Go.Proofs.YtkefdkboejimeaaGreatDoor
namespace Go.Proofs.YtkefdkboejimeaaGreatDoor
open Go.RowKit
theorem jeR (n : Nod) (A : At) (u : Sl) (v0 : Val) (x : List Int) (w : World) (hop : n.op ∈ ([⟨#[84, 114, 97, 110, 115, 112, 111, 115, 101]⟩] : List ByteArray)) (hn : NodeOk w n A) (hv : ValsIn w u.v [(v0, x)]) (hf : Fine x) : Calls Tryz.prog 122 #[jaL n, .slice u.a u.n u.c] w (jbj w (jaQ A x) jc8) := by
 obtain ⟨xa, xc, e1, q1, q2, q3⟩ := hv.vals.form
 simp only [List.map_cons, List.map_nil, List.length_cons, List.length_nil, Nat.zero_add] at e1 q1 q3
 obtain ⟨ua, un, uc⟩ := u
 simp only [Sl.v, Value.slice.injEq] at e1
 obtain ⟨rfl, rfl, rfl⟩ := e1
 obtain ⟨b, off, rfl⟩ := hv.vals.addr (k := 0) (by simp)
 obtain ⟨-, z0⟩ := hv.at 0 (by simp)
 rw [Nat.zero_mul, Nat.add_zero] at z0
 simp only [List.getElem_cons_zero] at z0
 have HX := jae (hv.dims (v0, x) (by simp))
 obtain ⟨vn0, vt0, ⟨d0a, d0n, d0c⟩⟩ := v0
 simp only at z0 HX
 have Z0 := jae z0
 clear hv z0
 have NK := jae hn
 obtain ⟨op, nam, ⟨ia, il, ic⟩, out, ⟨ao, al, cap⟩⟩ := n
 unfold jaL
 simp only
 obtain ⟨w0, hw0⟩ : ∃ w0, w0 = w.alloc (.cells #[.string op, .string nam, .slice ia il ic, .string out, .slice ao al cap] 35) := ⟨_, rfl⟩
 have g0 : Hid (w.grownBy w0 none) := by show w.grownBy w0 none; rw [hw0]; exact jab _ _
 have hb0 := heap_alloc_new w (.cells #[.string op, .string nam, .slice ia il ic, .string out, .slice ao al cap] 35)
 rw [← hw0] at hb0
 have BX : Hid (∀ wx, w0.grownBy wx none → wx.heap[w.heap.size]? = some (.cells #[.string op, .string nam, .slice ia il ic, .string out, .slice ao al cap] 35 (0, 0))) := fun wx hg => jad hb0 hg
 clear hb0 hn
 simp only at hop
 have z0 : (w.alloc (.cells #[.string op, .string nam, .slice ia il ic, .string out, .slice ao al cap] 35)).cell? ⟨b, off + 2, none⟩ = some (.slice d0a d0n d0c) := jac Z0.out (jab _ _)
 have C := jae (jfi ⟨op, nam, ⟨ia, il, ic⟩, out, ⟨ao, al, cap⟩⟩ A ⟨d0a, d0n, d0c⟩ x w0 (NK.out.more g0.out) (HX.out.more g0.out) hf)
 unfold jaL at C
 simp only at C
 simp only [List.mem_cons, List.not_mem_nil, or_false] at hop
 subst hop
 all_goals
  go_enter Tryz.func122, Tryz.ntmps122
  go_wp2_with fail
  rw [← hw0]
  clear hw0
  cases hk : jaQ A x with
  | error c =>
   rw [hk] at C
   have HK := jae hk
   clear hk
   refine C.out.mono ?_
   rintro e w' ⟨hg, rfl⟩
   exact ⟨rfl, jam (by first | exact HK.out | rfl) (jaa g0.out hg)⟩
  | ok zs =>
   rw [hk] at C
   have HK := jae hk
   clear hk
   refine C.out.mono ?_
   rintro e w' ⟨hg, v, rfl, ⟨s1, s2, s3⟩, rfl, hs⟩
   simp only [Sl.v]
   go_wp2
   go_ret
   exact jbc (by first | exact HK.out | rfl) (jaa g0.out hg) ⟨⟨s1, s2, s3⟩, rfl, hs⟩
theorem jgI (n : Nod) (A : At) (u : Sl) (v0 v1 : Val) (x y : List Int) (w : World) (hop : n.op ∈ ([⟨#[77, 97, 116, 77, 117, 108]⟩] : List ByteArray)) (hn : NodeOk w n A) (hv : ValsIn w u.v [(v0, x), (v1, y)]) (hf : Fine x) (hfy : Fine y) : Calls Tryz.prog 122 #[jaL n, .slice u.a u.n u.c] w (jbj w (ja1 x y) jc8) := by
 obtain ⟨xa, xc, e1, q1, q2, q3⟩ := hv.vals.form
 simp only [List.map_cons, List.map_nil, List.length_cons, List.length_nil, Nat.zero_add, Nat.reduceAdd] at e1 q1 q3
 obtain ⟨ua, un, uc⟩ := u
 simp only [Sl.v, Value.slice.injEq] at e1
 obtain ⟨rfl, rfl, rfl⟩ := e1
 obtain ⟨b, off, rfl⟩ := hv.vals.addr (k := 0) (by simp)
 obtain ⟨-, z0⟩ := hv.at 0 (by simp)
 rw [Nat.zero_mul, Nat.add_zero] at z0
 simp only [List.getElem_cons_zero] at z0
 have HX := jae (hv.dims (v0, x) (by simp))
 obtain ⟨-, z1⟩ := hv.at 1 (by simp)
 rw [Nat.one_mul] at z1
 simp only [List.getElem_cons_zero, List.getElem_cons_succ] at z1
 have HY := jae (hv.dims (v1, y) (by simp))
 obtain ⟨vn1, vt1, ⟨d1a, d1n, d1c⟩⟩ := v1
 simp only at z1 HY
 have Z1 := jae z1
 clear z1
 obtain ⟨vn0, vt0, ⟨d0a, d0n, d0c⟩⟩ := v0
 simp only at z0 HX
 have Z0 := jae z0
 clear hv z0
 have NK := jae hn
 obtain ⟨op, nam, ⟨ia, il, ic⟩, out, ⟨ao, al, cap⟩⟩ := n
 unfold jaL
 simp only
 obtain ⟨w0, hw0⟩ : ∃ w0, w0 = w.alloc (.cells #[.string op, .string nam, .slice ia il ic, .string out, .slice ao al cap] 35) := ⟨_, rfl⟩
 have g0 : Hid (w.grownBy w0 none) := by show w.grownBy w0 none; rw [hw0]; exact jab _ _
 have hb0 := heap_alloc_new w (.cells #[.string op, .string nam, .slice ia il ic, .string out, .slice ao al cap] 35)
 rw [← hw0] at hb0
 have BX : Hid (∀ wx, w0.grownBy wx none → wx.heap[w.heap.size]? = some (.cells #[.string op, .string nam, .slice ia il ic, .string out, .slice ao al cap] 35 (0, 0))) := fun wx hg => jad hb0 hg
 clear hb0 hn
 simp only at hop
 have z0 : (w.alloc (.cells #[.string op, .string nam, .slice ia il ic, .string out, .slice ao al cap] 35)).cell? ⟨b, off + 2, none⟩ = some (.slice d0a d0n d0c) := jac Z0.out (jab _ _)
 have z1 : (w.alloc (.cells #[.string op, .string nam, .slice ia il ic, .string out, .slice ao al cap] 35)).cell? ⟨b, off + 3 + 2, none⟩ = some (.slice d1a d1n d1c) := jac Z1.out (jab _ _)
 have C := jae (jhR ⟨d0a, d0n, d0c⟩ ⟨d1a, d1n, d1c⟩ x y w0 (HX.out.more g0.out) (HY.out.more g0.out) hf.few hfy.few)
 simp only at C
 simp only [List.mem_cons, List.not_mem_nil, or_false] at hop
 subst hop
 all_goals
  go_enter Tryz.func122, Tryz.ntmps122
  go_wp2_with fail
  rw [← hw0]
  clear hw0
  cases hk : ja1 x y with
  | error c =>
   rw [hk] at C
   have HK := jae hk
   clear hk
   refine C.out.mono ?_
   rintro e w' ⟨hg, rfl⟩
   exact ⟨rfl, jam (by first | exact HK.out | rfl) (jaa g0.out hg)⟩
  | ok zs =>
   rw [hk] at C
   have HK := jae hk
   clear hk
   refine C.out.mono ?_
   rintro e w' ⟨hg, v, rfl, ⟨s1, s2, s3⟩, rfl, hs⟩
   simp only [Sl.v]
   go_wp2
   go_ret
   exact jbc (by first | exact HK.out | rfl) (jaa g0.out hg) ⟨⟨s1, s2, s3⟩, rfl, hs⟩
end Go.Proofs.YtkefdkboejimeaaGreatDoor
namespace Go.Proofs.YtkefdkboejimeaaGreatDoor
open Go.RowKit
theorem jhS (n : Nod) (A : At) (u : Sl) (v0 : Val) (x : List Int) (w : World) (hop : n.op ∈ ([⟨#[77, 97, 120, 80, 111, 111, 108]⟩, ⟨#[65, 118, 101, 114, 97, 103, 101, 80, 111, 111, 108]⟩] : List ByteArray)) (hn : NodeOk w n A) (hv : ValsIn w u.v [(v0, x)]) (hf : Fine x) : Calls Tryz.prog 122 #[jaL n, .slice u.a u.n u.c] w (jbj w (jbi A x) jc8) := by
 obtain ⟨xa, xc, e1, q1, q2, q3⟩ := hv.vals.form
 simp only [List.map_cons, List.map_nil, List.length_cons, List.length_nil, Nat.zero_add] at e1 q1 q3
 obtain ⟨ua, un, uc⟩ := u
 simp only [Sl.v, Value.slice.injEq] at e1
 obtain ⟨rfl, rfl, rfl⟩ := e1
 obtain ⟨b, off, rfl⟩ := hv.vals.addr (k := 0) (by simp)
 obtain ⟨-, z0⟩ := hv.at 0 (by simp)
 rw [Nat.zero_mul, Nat.add_zero] at z0
 simp only [List.getElem_cons_zero] at z0
 have HX := jae (hv.dims (v0, x) (by simp))
 obtain ⟨vn0, vt0, ⟨d0a, d0n, d0c⟩⟩ := v0
 simp only at z0 HX
 have Z0 := jae z0
 clear hv z0
 have NK := jae hn
 obtain ⟨op, nam, ⟨ia, il, ic⟩, out, ⟨ao, al, cap⟩⟩ := n
 unfold jaL
 simp only
 obtain ⟨w0, hw0⟩ : ∃ w0, w0 = w.alloc (.cells #[.string op, .string nam, .slice ia il ic, .string out, .slice ao al cap] 35) := ⟨_, rfl⟩
 have g0 : Hid (w.grownBy w0 none) := by show w.grownBy w0 none; rw [hw0]; exact jab _ _
 have hb0 := heap_alloc_new w (.cells #[.string op, .string nam, .slice ia il ic, .string out, .slice ao al cap] 35)
 rw [← hw0] at hb0
 have BX : Hid (∀ wx, w0.grownBy wx none → wx.heap[w.heap.size]? = some (.cells #[.string op, .string nam, .slice ia il ic, .string out, .slice ao al cap] 35 (0, 0))) := fun wx hg => jad hb0 hg
 clear hb0 hn
 simp only at hop
 have z0 : (w.alloc (.cells #[.string op, .string nam, .slice ia il ic, .string out, .slice ao al cap] 35)).cell? ⟨b, off + 2, none⟩ = some (.slice d0a d0n d0c) := jac Z0.out (jab _ _)
 have C := jae (jjr ⟨op, nam, ⟨ia, il, ic⟩, out, ⟨ao, al, cap⟩⟩ A ⟨d0a, d0n, d0c⟩ x w0 (NK.out.more g0.out) (HX.out.more g0.out) hf)
 unfold jaL at C
 simp only at C
 simp only [List.mem_cons, List.not_mem_nil, or_false] at hop
 rcases hop with rfl | rfl
 all_goals
  go_enter Tryz.func122, Tryz.ntmps122
  go_wp2_with fail
  rw [← hw0]
  clear hw0
  cases hk : jbi A x with
  | error c =>
   rw [hk] at C
   have HK := jae hk
   clear hk
   refine C.out.mono ?_
   rintro e w' ⟨hg, rfl⟩
   exact ⟨rfl, jam (by first | exact HK.out | rfl) (jaa g0.out hg)⟩
  | ok zs =>
   rw [hk] at C
   have HK := jae hk
   clear hk
   refine C.out.mono ?_
   rintro e w' ⟨hg, v, rfl, ⟨s1, s2, s3⟩, rfl, hs⟩
   simp only [Sl.v]
   go_wp2
   go_ret
   exact jbc (by first | exact HK.out | rfl) (jaa g0.out hg) ⟨⟨s1, s2, s3⟩, rfl, hs⟩
end Go.Proofs.YtkefdkboejimeaaGreatDoor
namespace Go.Proofs.YtkefdkboejimeaaGreatDoor
open Go.RowKit
theorem ValsIn.tail {w : World} {b off n c : Nat} {p : Val × List Int} {l : List (Val × List Int)} (h : ValsIn w (.slice (some ⟨b, off, none⟩) n c) (p :: l)) : ValsIn w (.slice (some ⟨b, off + 3, none⟩) l.length (c - 1)) l := by
 refine ⟨?_, fun q hq => h.dims q (List.mem_cons_of_mem _ hq)⟩
 obtain ⟨ao, cap, e, h1, h2, h3, h4, h5⟩ := h.vals
 cases e
 simp only [List.map_cons, List.length_cons] at h1 h3 h5
 refine ⟨_, c - 1, by rw [List.length_map], by omega, by omega, by omega, (fun h => by cases h), fun hp => ⟨b, off + 3, rfl, fun k hk j hj => ?_⟩⟩
 obtain ⟨b', off', e', hc⟩ := h5 (by omega)
 cases e'
 have := hc (k + 1) (by omega) j hj
 simp only [List.getElem_cons_succ] at this
 rw [show off + 3 + k * 3 + j = off + (k + 1) * 3 + j by omega]
 exact this
end Go.Proofs.YtkefdkboejimeaaGreatDoor
