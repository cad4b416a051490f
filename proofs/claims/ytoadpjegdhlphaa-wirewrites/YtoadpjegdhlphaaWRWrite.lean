/- The document's Write, by the walk. -/
import Derived.Test.YtoadpjegdhlphaaWROne
import Derived.Test.YtoadpjegdhlphaaLWBackW
namespace Go.Proofs.Ytoadpjegdhlphaa
open Go.RowKit

theorem bytes_cells' (s : ByteArray) : Lib.strCells s = (bytesOf s).flatMap bcells := bytes_cells s

theorem bytesOf_sof (l : List Nat) (h : ∀ c ∈ l, c < 256) : bytesOf (sof l) = l := by
  unfold bytesOf
  rw [sof_data]
  simp only [List.map_map]
  have e : ∀ c ∈ l, (UInt8.toNat ∘ fun (n : Nat) => UInt8.ofNat n) c = c := fun c hc => by
    have := h c hc
    simp only [Function.comp]
    rw [UInt8.toNat_ofNat']
    omega
  exact (List.map_congr_left e).trans (List.map_id' l)

theorem fb_lt (x : Fld) : ∀ c ∈ fb x, c < 256 := by
  intro c hc
  unfold fb at hc
  rcases List.mem_append.1 hc with h | h
  · exact vbF_lt _ _ c h
  · unfold tailOf at h
    split at h
    · exact vbF_lt _ _ c h
    · split at h
      · exact lo_lt _ _ c h
      · split at h
        · exact lo_lt _ _ c h
        · rcases List.mem_append.1 h with h | h
          · exact vbF_lt _ _ c h
          · exact bytesOf_lt _ c h

/-- What holds ahead of each round. -/
def RWI (xs : List Fld) (w wr : World) (k : Nat) (v : Value) (L : Bool) : Prop :=
  k ≤ xs.length ∧ (∀ j (_ : j < k) (hj : j < xs.length), fok xs[j] = true) ∧ w.grownBy wr none ∧ (∃ ys, OwnsB wr w.heap.size v ys ∧ ys.length ≤ 16777216 ∧ (L = false → ys = outOf (xs.take k)) ∧ (L = true → 16777216 < (outOf (xs.take k)).length))

set_option maxRecDepth 100000 in
set_option maxHeartbeats 6400000 in
theorem refwrite_any (v : Value) (xs : List Fld) (w : World) (hv : IsFlds w v xs) (hin : ∀ x ∈ xs, FldIn x) :
    Calls Try.prog 20 #[v] w fun e w' => e = .returned (.tuple #[.string (wrote xs).1, .int .i64 (wrote xs).2]) ∧ w.grownBy w' none := by
  have hnot : ∀ (x : Bool) (w : World), (Op.unary .not (.bool x)).run Try.prog w = .ok (.bool (!x)) w := fun _ _ => rfl
  obtain ⟨i0, hi, hz0, hz1, hz2⟩ := info_parts infoByte
  have HV := hide hv
  have HI := hide hin
  obtain ⟨va, vc, rfl, h1, h2, h3, -, h5⟩ := hv
  clear hin
  go_enter Try.func20, Try.ntmps20
  go_wp2
  go_loopg [4, 5, 6] xs.length (fun f bb ll ii wr => ∃ (k : Nat) (v : Value) (L : Bool), f = xs.length - k ∧ bb = v ∧ ll = .bool L ∧ ii = .int .i64 k ∧ RWI xs w wr k v L)
  case atStart => exact ⟨0, _, false, rfl, rfl, rfl, rfl, Nat.zero_le _, fun j h => by omega, grown_refl _, [], OwnsL.nil _ _ _ _ _, by simp, fun _ => by simp [outOf], fun h => by cases h⟩
  case round =>
    obtain ⟨k, v, L, rfl, rfl, rfl, rfl, hk, hok, hg, ys, hown, hyl, hy1, hy2⟩ := hrel
    obtain ⟨ao, cap, rfl⟩ := hown.form
    have HO := hide hown
    have HOK := hide hok
    have HY1 := hide hy1
    have HY2 := hide hy2
    have hgz := hg.size
    clear hok hown hy1 hy2
    by_cases hlt : k < xs.length
    · obtain ⟨b, off, rfl, -⟩ := h5 (by omega)
      obtain ⟨a0, a1, a2, a3⟩ := (HV.out.more hg).at k hlt
      have ON := hide (fun wx => one_any xs[k] wx (HI.out _ (List.getElem_mem hlt)))
      dsimp only [fval] at ON
      have HSN := hide (out_snoc xs k hlt)
      cases hf : fok xs[k] with
      | true =>
        have HOK2 : Hid (∀ j (_ : j < k + 1) (hj : j < xs.length), fok xs[j] = true) := by
          intro j h1 h2
          by_cases e : j = k
          · subst e; exact hf
          · exact HOK.out j (by omega) h2
        have hfl : (fb xs[k]).length ≤ 140737488351254 := by
          have h1 := (fb_len (x := xs[k])).2
          have h2 := (HI.out _ (List.getElem_mem hlt)).2.2.2.2.2.2
          omega
        have hsz : (sof (fb xs[k])).size = (fb xs[k]).length := sof_size _
        have HBY := hide (bytesOf_sof (fb xs[k]) (fb_lt _))
        have HSF : Hid (∀ e, One xs[k] e → e = .returned (.tuple #[.string (sof (fb xs[k])), .bool true])) := by
          intro e h
          rcases h with ⟨_, h⟩ | ⟨h, _⟩
          · exact h
          · rw [hf] at h; cases h
        obtain ⟨F, hF⟩ : ∃ F, F = fb xs[k] := ⟨_, rfl⟩
        obtain ⟨S, hS⟩ : ∃ S, S = sof (fb xs[k]) := ⟨_, rfl⟩
        rw [← hS] at hsz HBY HSF
        rw [← hF] at hsz HBY HSN hfl
        have HSZ := hide hsz
        have hs1 : S.size ≤ 140737488351254 := by omega
        clear hS hF hsz hfl hf HOK
        cases L with
        | true =>
          have HT2 := hide (HY2.out rfl)
          clear HY1 HY2
          by_cases hb : 16777216 < ys.length + S.size
          all_goals
            go_wp2_with fail
            refine (ON.out _).mono ?_
            rintro e w1 ⟨he, g1⟩
            obtain rfl := HSF.out e he
            clear he
            go_wp2
            go_roundg (xs.length - (k + 1))
            case measure => omega
            case rel => exact ⟨k + 1, _, true, rfl, rfl, rfl, by go_num, by omega, HOK2.out, grown_trans hg g1, ys, HO.out.more g1, hyl, (fun h => by cases h), fun _ => by rw [HSN.out, List.length_append]; have := HT2.out; omega⟩
        | false =>
          have HYK := hide (HY1.out rfl)
          clear HY1 HY2
          by_cases hb : 16777216 < ys.length + S.size
          · go_wp2_with fail
            refine (ON.out _).mono ?_
            rintro e w1 ⟨he, g1⟩
            obtain rfl := HSF.out e he
            clear he
            go_wp2
            go_roundg (xs.length - (k + 1))
            case measure => omega
            case rel => exact ⟨k + 1, _, true, rfl, rfl, rfl, by go_num, by omega, HOK2.out, grown_trans hg g1, ys, HO.out.more g1, hyl, (fun h => by cases h), fun _ => by rw [HSN.out, List.length_append, ← HYK.out, ← HSZ.out]; exact hb⟩
          · go_wp2_with fail
            refine (ON.out _).mono ?_
            rintro e w1 ⟨he, g1⟩
            obtain rfl := HSF.out e he
            clear he
            have g1z := g1.size
            go_wp2_with (at_builtin; refine Lib.wpList_append_own_string _ rfl (.tmp 33) (.tmp 34) 48 9 rfl w.heap.size 5 i0 Try.underlying48 Try.underlying9 hi hz0 hz1 hz2 _ _ _ rfl (HO.out.more g1) S rfl ?_ ?_ ?_ ?_; (simp only [maxLen]; omega); omega; omega; intro v4 w4 o4 g4 _)
            have o5 : OwnsB w4 w.heap.size v4 (ys ++ F) := by
              rw [bytes_cells', HBY.out] at o4
              unfold OwnsB OwnsL
              rw [List.flatMap_append, List.length_append, ← HSZ.out]
              exact o4
            go_roundg (xs.length - (k + 1))
            case measure => omega
            case rel => exact ⟨k + 1, _, false, rfl, rfl, rfl, by go_num, by omega, HOK2.out, own_row (HO.out.more g1) (grown_trans hg g1) (Nat.le_refl _) g4, ys ++ F, o5, by rw [List.length_append, ← HSZ.out]; omega, fun _ => by rw [HSN.out, HYK.out], (fun h => by cases h)⟩
      | false =>
        have HW : Hid (wrote xs = (⟨#[]⟩, 1)) := by unfold wrote; rw [if_neg (by rw [all_bad hlt hf]; simp)]; rfl
        have HSF : Hid (∀ e, One xs[k] e → e = .returned (.tuple #[.string ⟨#[]⟩, .bool false])) := by
          intro e h
          rcases h with ⟨h, _⟩ | ⟨_, h⟩
          · rw [hf] at h; cases h
          · exact h
        clear hf HOK
        go_wp2_with fail
        refine (ON.out _).mono ?_
        rintro e w1 ⟨he, g1⟩
        obtain rfl := HSF.out e he
        clear he
        go_wp2
        go_ret2
        exact ⟨ret_two HW.out, grown_trans hg g1⟩
    · obtain rfl : k = xs.length := by omega
      have HG : Hid (xs.all fok = true) := all_good (fun j hj => HOK.out j hj hj)
      cases L with
      | true =>
        have HW : Hid (wrote xs = (⟨#[]⟩, 6)) := by
          unfold wrote
          have := HY2.out rfl
          rw [List.take_length] at this
          rw [if_pos HG.out, if_neg (by omega)]
          rfl
        clear HY1 HY2
        go_wp2
        go_ret2
        exact ⟨ret_two HW.out, hg⟩
      | false =>
        have hy := HY1.out rfl
        rw [List.take_length] at hy
        have HW : Hid (wrote xs = (sof (outOf xs), 0)) := by
          unfold wrote
          rw [if_pos HG.out, if_pos (by rw [← hy]; exact hyl)]
          rfl
        have hcv := conv_own HO.out
        rw [show sof ys = sof (outOf xs) by rw [hy]] at hcv
        clear hy HY1 HY2
        go_wp2
        go_ret2
        exact ⟨ret_two HW.out, hg⟩
end Go.Proofs.Ytoadpjegdhlphaa
