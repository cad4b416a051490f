/- What a node makes of values: newValue and valueOf, by the walk. -/
import Derived.Test.YteigfipgmghgmaaGreatDoorIDim5
import Derived.Test.YteigfipgmghgmaaGreatDoorITy
namespace Go.Proofs.YteigfipgmghgmaaGreatDoor
open Go.RowKit

/-- Values whose types and dims may be. -/
def vinP : List (Val × List Int) → R Unit
  | [] => .ok ()
  | p :: l => (typP p.1.ty).bind (fun _ => (countP p.2).bind (fun _ => vinP l))

/-- What follows in a node must have the type. -/
def thenP (t : Int) : List ByteArray → R Unit
  | [] => .ok ()
  | o :: l => (mustP (oneOK o.toList t)).bind (fun _ => thenP t l)

theorem vinP_step {vs : List (Val × List Int)} {k : Nat} (hk : k < vs.length) : vinP (vs.drop k) = (typP vs[k].1.ty).bind (fun _ => (countP vs[k].2).bind (fun _ => vinP (vs.drop (k + 1)))) := by
  rw [List.drop_eq_getElem_cons hk]
  rfl

theorem thenP_step {t : Int} {os : List ByteArray} {k : Nat} (hk : k < os.length) : thenP t (os.drop k) = (mustP (oneOK os[k].toList t)).bind (fun _ => thenP t (os.drop (k + 1))) := by
  rw [List.drop_eq_getElem_cons hk]
  rfl

theorem valInfo : (Tryz.prog.info? 53).map (·.size) = some 3 := by kernel_rfl

theorem ret_val {fn : Func} {p : Tmp} (h : fn.results = #[.cell p 53]) (tmps : Array Value) (w : World) (B : Nat) (hp : tmps.getD p undef = .pointer (some ⟨B, 0, none⟩)) {a0 a1 a2 : Value}
    (hb : w.heap[B]? = some (.cells #[a0, a1, a2] 53 (0, 0))) : (results fn tmps).run Tryz.prog w = .ok (.agg #[a0, a1, a2]) w :=
  results_cell_row h tmps w B 53 #[a0, a1, a2] (0, 0) _ hp hb Tryz.underlying53 rfl (by rw [valInfo]; rfl)

set_option maxRecDepth 100000 in
set_option maxHeartbeats 2000000 in
theorem newvalue_any (nm : ByteArray) (t : Int) (u : Sl) (ds : List Int) (w : World) (hd : IsInts w u.v ds) (hs : nm.size ≤ 281474976710656) : Calls Tryz.prog 78 #[.string nm, .int .i64 t, .slice u.a u.n u.c] w fun e w' => ∃ s : Sl, e = .returned (.agg #[.string nm, .int .i64 t, .slice s.a s.n s.c]) ∧ Owns w' w.heap.size s.v ds ∧ w.grownBy w' none := by
  obtain ⟨w0, hw0⟩ : ∃ w0, w0 = w.alloc (.cells #[.string ⟨#[]⟩, .int .i64 0, .slice none 0 0] 53) := ⟨_, rfl⟩
  have g0 : Hid (w.grownBy w0 none) := by show w.grownBy w0 none; rw [hw0]; exact grown_new _ _
  have hb0 := heap_alloc_new w (.cells #[.string ⟨#[]⟩, .int .i64 0, .slice none 0 0] 53)
  rw [← hw0] at hb0
  have BX : Hid (∀ wx, w0.grownBy wx none → wx.heap[w.heap.size]? = some (.cells #[.string ⟨#[]⟩, .int .i64 0, .slice none 0 0] 53 (0, 0))) := fun wx hg => box_kept hb0 hg
  have SC := hide (strclone_any nm w0 hs)
  have HD := hide hd
  clear hb0 hd
  go_enter Tryz.func78, Tryz.ntmps78
  go_wp2_with fail
  rw [← hw0]
  clear hw0
  refine SC.out.mono ?_
  rintro e w1 ⟨rfl, hg1⟩
  have CL := hide (cloneI_any u ds w1 (HD.out.more (grown_trans g0.out hg1)))
  go_wp2_with (first | (go_at_call 94; refine CL.out.mono ?_; rintro e w2 ⟨⟨s1, s2, s3⟩, rfl, ho, hg2⟩; simp only; have g2 := grown_trans hg1 hg2; have B2 := BX.out w2 g2; obtain ⟨f0, f1, f2⟩ := ten_frozen B2; have c0 := (cell_of_row _ _ 0 _ _ (0, 0) B2).trans rfl; have c1 := (cell_of_row _ _ 1 _ _ (0, 0) B2).trans rfl; have c2 := (cell_of_row _ _ 2 _ _ (0, 0) B2).trans rfl) | fail)
  obtain ⟨hX, gX⟩ := store3t (.string nm) (.int .i64 t) (.slice s1 s2 s3) B2
  have gf : w.grownBy _ none := grown_drop (grown_trans g0.out g2) gX (Nat.le_refl _)
  refine bodyPost_ret (ret_val rfl _ _ w.heap.size rfl hX) rfl ?_
  refine ⟨⟨s1, s2, s3⟩, rfl, ?_, gf⟩
  have hb : w.heap.size < w1.heap.size := by have := (BX.out w1 hg1); exact (Array.getElem?_eq_some_iff.1 this).1
  have h := (ho.base_le (b' := w.heap.size + 1) (by omega)).more gX (by
    rcases ho.1.2 with ⟨e, -⟩ | ⟨gg, cap, cur, e, hgg, -⟩
    · exact .inl (by rw [e]; rfl)
    · exact .inr (by rw [e]; simp [Value.ownBlock]; omega))
  exact h.base_le (by omega)
end Go.Proofs.YteigfipgmghgmaaGreatDoor
