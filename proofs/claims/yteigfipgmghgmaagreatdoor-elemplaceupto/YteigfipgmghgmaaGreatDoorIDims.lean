/- What infer makes of dims: axes that go, that come, that change places, by the walk. -/
import Derived.Test.YteigfipgmghgmaaGreatDoorIMore
namespace Go.Proofs.YteigfipgmghgmaaGreatDoor
open Go.RowKit

/-- Dims that come out. -/
def DimsQ (zs : List Int) (v : Value) (w' : World) : Prop := ∃ s : Sl, v = s.v ∧ IsInts w' s.v zs

theorem axesof_any (u : Sl) (l : List Int) (rank : Nat) (w : World) (hv : IsInts w u.v l) (hr : rank ≤ 100000000000000) : Calls Tryz.prog 108 #[.slice u.a u.n u.c, .int .i64 rank] w (Ended w (axesP l rank) fun is v w' => ∃ B, v = .slice (some ⟨B, 0, none⟩) rank rank ∧ OwnBl w' w.heap.size B is ∧ is.length = rank) := by
  have F := hide (axes_any u.v l rank w hv hr)
  unfold axesP
  cases hx : axesO rank l (List.replicate rank false) with
  | none =>
    rw [hx] at F
    clear hx hv
    go_enter Tryz.func108, Tryz.ntmps108
    go_wp2_with (first | (go_at_call 144; refine F.out.mono ?_; rintro e w' ⟨hg, rfl⟩) | (go_at_call 71; refine (must_no _).mono ?_; rintro e w' ⟨rfl, rfl⟩))
    exact ⟨rfl, hg, rfl⟩
  | some is =>
    rw [hx] at F
    clear hx hv
    go_enter Tryz.func108, Tryz.ntmps108
    go_wp2_with (first | (go_at_call 144; refine F.out.mono ?_; rintro e w' ⟨hg, B, rfl, ho, hl⟩) | (go_at_call 71; refine (must_yes _).mono ?_; rintro e w' ⟨rfl, rfl⟩))
    go_ret
    exact ⟨hg, _, rfl, B, rfl, ho, hl⟩

theorem keptL_snoc (keep : Bool) (d : Int) (g : Bool) : ∀ (a : List Int) (gs : List Bool), a.length = gs.length → keptL keep (a ++ [d]) (gs ++ [g]) = keptL keep a gs ++ (if g = false then [d] else if keep = true then [1] else [])
  | [], [], _ => by cases g <;> cases keep <;> simp [keptL]
  | [], _ :: _, h => by simp at h
  | _ :: _, [], h => by simp at h
  | x :: a, y :: gs, h => by
    have ih := keptL_snoc keep d g a gs (by simpa using h)
    simp only [List.cons_append, keptL, ih]
    split <;> (try split) <;> simp_all

theorem keptL_len (keep : Bool) : ∀ (a : List Int) (gs : List Bool), (keptL keep a gs).length ≤ a.length
  | [], _ => by simp [keptL]
  | _ :: _, [] => by simp [keptL]
  | x :: a, y :: gs => by
    have ih := keptL_len keep a gs
    simp only [keptL]
    split
    · simp; omega
    · split
      · simp; omega
      · simp; omega

theorem takeB_step (zs : List Bool) (k : Nat) (hk : k < zs.length) : zs.take (k + 1) = zs.take k ++ [zs.getD k false] := by
  rw [List.take_add_one]
  simp [List.getD, hk]

set_option maxRecDepth 100000 in
theorem reduced_any (n : Nod) (A : At) (u : Sl) (x : List Int) (w : World) (hn : NodeOk w n A) (hx : IsInts w u.v x) (hf : Fine x) : Calls Tryz.prog 110 #[nval n, .slice u.a u.n u.c] w (Ended w (reducedP A x) DimsQ) := by
  obtain ⟨ux, uc, eu, c1, c2, c3⟩ := hx.sl
  obtain ⟨ua, un, uu⟩ := u
  simp only [Sl.v, Value.slice.injEq] at eu
  obtain ⟨rfl, rfl, rfl⟩ := eu
  have HX := hide hx
  have FEW := hf.few
  have POS := hide hf
  clear hx hf
  have RG := hn.int ⟨#[107, 101, 101, 112, 100, 105, 109, 115]⟩ 1 (by omega)
  have NK := hide hn
  obtain ⟨op, nam, ⟨ia, il, ic⟩, out, ⟨ao, al, cap⟩⟩ := n
  unfold nval
  simp only
  obtain ⟨w0, hw0⟩ : ∃ w0, w0 = w.alloc (.cells #[.string op, .string nam, .slice ia il ic, .string out, .slice ao al cap] 25) := ⟨_, rfl⟩
  have g0 : Hid (w.grownBy w0 none) := by show w.grownBy w0 none; rw [hw0]; exact grown_new _ _
  have hb0 := heap_alloc_new w (.cells #[.string op, .string nam, .slice ia il ic, .string out, .slice ao al cap] 25)
  rw [← hw0] at hb0
  have BX : Hid (∀ wx, w0.grownBy wx none → wx.heap[w.heap.size]? = some (.cells #[.string op, .string nam, .slice ia il ic, .string out, .slice ao al cap] 25 (0, 0))) := fun wx hg => box_kept hb0 hg
  clear hb0 hn
  have I0 := hide (nint_any ⟨op, nam, ⟨ia, il, ic⟩, out, ⟨ao, al, cap⟩⟩ A ⟨#[107, 101, 101, 112, 100, 105, 109, 115]⟩ 1 w0 (NK.out.more g0.out))
  have AL := hide (fun (wx : World) (hg : w.grownBy wx none) => along_any ⟨op, nam, ⟨ia, il, ic⟩, out, ⟨ao, al, cap⟩⟩ A x.length wx (NK.out.more hg) (by omega))
  unfold nval at I0 AL
  simp only at I0 AL
  obtain ⟨z, hz⟩ : ∃ z, z = A.int ⟨#[107, 101, 101, 112, 100, 105, 109, 115]⟩ 1 := ⟨_, rfl⟩
  rw [← hz] at I0 RG
  go_enter Tryz.func110, Tryz.ntmps110
  go_wp2_with fail
  rw [← hw0]
  clear hw0
  refine I0.out.mono ?_
  rintro e w1 ⟨rfl, hg1⟩
  have G1 := hide hg1
  clear hg1 I0
  have ON := hide (ison_any z w1)
  cases hk : isOnP z with
  | error c =>
    rw [hk] at ON
    have E : Hid (reducedP A x = .error c) := by show _ = _; unfold reducedP; rw [← hz, hk]; rfl
    clear hk hz
    go_wp2_with (go_at_call 146; refine ON.out.mono ?_; rintro e w' ⟨hg, rfl⟩)
    exact ⟨rfl, ended_err E.out (grown_trans (grown_trans g0.out G1.out) hg)⟩
  | ok keep =>
    rw [hk] at ON
    have E : Hid (reducedP A x = (axesP (alongP A x.length) x.length).bind (fun gone => .ok (keptL keep x gone))) := by show _ = _; unfold reducedP; rw [← hz, hk]; rfl
    clear hk hz
    obtain ⟨n0, n1, n2, n3, n4⟩ := nod_cells (n := ⟨op, nam, ⟨ia, il, ic⟩, out, ⟨ao, al, cap⟩⟩) (BX.out w1 (G1.out))
    go_wp2_with (first | (go_at_call 146; refine ON.out.mono ?_; rintro e w' ⟨hg, v, rfl, rfl, rfl⟩; clear hg) | fail)
    refine (AL.out w1 (grown_trans g0.out G1.out)).mono ?_
    rintro e w2 ⟨s, rfl, hs, hg2⟩
    have AX := hide (axesof_any s _ x.length w2 hs (by omega))
    have G2 := hide (grown_trans (grown_trans g0.out G1.out) hg2)
    clear hs hg2 AL
    cases hk : axesP (alongP A x.length) x.length with
    | error c =>
      rw [hk] at AX
      have E2 : Hid (reducedP A x = .error c) := by show _ = _; rw [E.out, hk]; rfl
      clear hk
      go_wp2_with (go_at_call 108; refine AX.out.mono ?_; rintro e w' ⟨hg, rfl⟩)
      exact ⟨rfl, ended_err E2.out (grown_trans G2.out hg)⟩
    | ok gone =>
      rw [hk] at AX
      have E2 : Hid (reducedP A x = .ok (keptL keep x gone)) := by show _ = _; rw [E.out, hk]; rfl
      clear hk
      go_wp2_with (go_at_call 108; refine AX.out.mono ?_; rintro e w3 ⟨hg3, v, rfl, B, rfl, ho, hl⟩)
      have G3 := hide (grown_trans G2.out hg3)
      have HO := hide ho
      have HL := hide hl
      clear hg3 ho hl n0 n1 n2 n3 n4
      go_loopw [7, 22] (fun s i wr => ∃ (k : Nat) (u : Sl), k ≤ x.length ∧ i = .int .i64 k ∧ s = .slice u.a u.n u.c ∧ Owns wr w3.heap.size u.v (keptL keep (x.take k) (gone.take k)) ∧ w3.grownBy wr none) (fun _ i _ => x.length - (intOf i).toNat)
      case atStart => exact ⟨0, ⟨none, 0, 0⟩, Nat.zero_le _, rfl, rfl, by simp [keptL]; exact owns_nil _ _, grown_refl _⟩
      case round =>
        obtain ⟨k, ⟨sa, sn, sc⟩, hk, rfl, rfl, ho, hg⟩ := hrel
        simp only
        have HO1 := hide ho
        have HG := hide hg
        have hsz := hg.size
        by_cases hkl : k < x.length
        · obtain ⟨b, off, rfl, hc⟩ := HX.out.get hkl
          have hcell : wr.cell? ⟨b, off + k, none⟩ = some (.int .i64 (x.getD k 0)) := cell_still (hc k hkl) (grown_trans G3.out hg)
          have hwf := HX.out.wf (x.getD k 0) (by simp [List.getD, hkl])
          have hgk : k < gone.length := by rw [HL.out]; exact hkl
          obtain ⟨cb, fb⟩ := (HO.out.new hg).at (k := k) (v := gone.getD k false) (by simp [List.getD, hgk])
          have ST := keptL_snoc keep (x.getD k 0) (gone.getD k false) (x.take k) (gone.take k) (by simp; omega)
          rw [← take_step x k hkl, ← takeB_step gone k hgk] at ST
          have hln := keptL_len keep (x.take k) (gone.take k)
          rw [List.length_take] at hln
          obtain ⟨d, hd0⟩ : ∃ d, d = x.getD k 0 := ⟨_, rfl⟩
          obtain ⟨gb, hgb⟩ : ∃ gb, gb = gone.getD k false := ⟨_, rfl⟩
          rw [← hd0] at hcell ST hwf
          rw [← hgb] at cb ST
          clear hc hd0 hgb ho hg
          cases gb with
          | false =>
            rw [if_pos rfl] at ST
            have HST := hide ST
            clear ST
            go_wp2_with (at_builtin; refine wpList_push rfl (.tmp 33) (.tmp 35) rfl w3.heap.size _ _ rfl HO1.out d rfl hwf (by omega) (by omega) ?_; intro v' w4 hown hgrow)
            obtain ⟨⟨xa, xn, xc⟩, rfl⟩ := hown.sl
            have HO2 := hide hown
            have HG2 := hide (hgrow w3 (Nat.le_refl _) HG.out)
            clear hown hgrow
            go_roundw
            case rel => exact ⟨k + 1, ⟨xa, xn, xc⟩, by omega, by go_num, rfl, by rw [HST.out]; exact HO2.out, HG2.out⟩
            case measure => simp [intOf]; omega
          | true =>
            rw [if_neg (by decide)] at ST
            cases keep with
            | true =>
              rw [if_pos rfl] at ST
              have HST := hide ST
              clear ST
              go_wp2_with (at_builtin; refine wpList_push rfl (.tmp 39) (.tmp 40) rfl w3.heap.size _ _ rfl HO1.out 1 rfl (by omega) (by omega) (by omega) ?_; intro v' w4 hown hgrow)
              obtain ⟨⟨xa, xn, xc⟩, rfl⟩ := hown.sl
              have HO2 := hide hown
              have HG2 := hide (hgrow w3 (Nat.le_refl _) HG.out)
              clear hown hgrow
              go_roundw
              case rel => exact ⟨k + 1, ⟨xa, xn, xc⟩, by omega, by go_num, rfl, by rw [HST.out]; exact HO2.out, HG2.out⟩
              case measure => simp [intOf]; omega
            | false =>
              rw [if_neg (by decide), List.append_nil] at ST
              have HST := hide ST
              clear ST
              go_wp2
              go_roundw
              case rel => exact ⟨k + 1, ⟨sa, sn, sc⟩, by omega, by go_num, rfl, by rw [HST.out]; exact HO1.out, HG.out⟩
              case measure => simp [intOf]; omega
        · have E3 : keptL keep (x.take k) (gone.take k) = keptL keep x gone := by rw [List.take_of_length_le (by omega), List.take_of_length_le (by rw [HL.out]; omega)]
          rw [E3] at HO1
          clear ho hg
          go_wp2
          go_ret
          exact ended_ok E2.out (grown_trans G3.out HG.out) ⟨⟨sa, sn, sc⟩, rfl, HO1.out.ints⟩
end Go.Proofs.YteigfipgmghgmaaGreatDoor
