/- What is written is read as it was. -/
import Derived.Test.YtoadpjegdhlphaaWOut
import Derived.Test.YtoadpjegdhlphaaWJoin
namespace Go.Proofs.Ytoadpjegdhlphaa

theorem sof_data (l : List Nat) : (sof l).data = (l.map fun (n : Nat) => UInt8.ofNat n).toArray := by
  unfold sof strOfNums
  simp [List.map_map, Function.comp_def]

theorem sof_size (l : List Nat) : (sof l).size = l.length := by
  unfold sof
  rw [strOfNums_size]; simp

theorem sof_append (a b : List Nat) : sof (a ++ b) = sof a ++ sof b := by
  apply ByteArray.ext
  rw [ByteArray.data_append, sof_data, sof_data, sof_data]
  simp

theorem bt_sof (l : List Nat) (i : Nat) (h : i < l.length) (hb : ∀ c ∈ l, c < 256) : bt (sof l) i = l[i] := by
  unfold bt
  have hs : i < (sof l).size := by rw [sof_size]; exact h
  rw [dif_pos hs]
  have e : (sof l)[i] = (sof l).data[i]'hs := rfl
  rw [e]
  simp only [sof_data, List.getElem_toArray, List.getElem_map]
  have := hb l[i] (List.getElem_mem h)
  rw [UInt8.toNat_ofNat']
  omega

theorem sof_bytes (s : ByteArray) : sof (bytesOf s) = s := by
  apply ByteArray.ext
  rw [sof_data]
  unfold bytesOf
  rw [List.map_map]
  have : (fun (n : Nat) => UInt8.ofNat n) ∘ UInt8.toNat = id := by funext c; simp
  rw [this]
  simp

theorem bytesOf_lt (s : ByteArray) : ∀ c ∈ bytesOf s, c < 256 := by
  intro c hc
  unfold bytesOf at hc
  obtain ⟨b, -, rfl⟩ := List.mem_map.1 hc
  exact UInt8.toNat_lt b

theorem lo_lt (n : Nat) : ∀ u, ∀ c ∈ lo u n, c < 256 := by
  induction n with
  | zero => intro u c hc; simp [lo] at hc
  | succ n ih =>
    intro u c hc
    rcases List.mem_cons.1 hc with rfl | hc
    · omega
    · exact ih _ c hc

theorem tkF_vb (l : List Nat) (hl : ∀ c ∈ l, c < 256) : ∀ (f U i A : Nat) (pre : List Nat), l = pre ++ vbF f U → pre.length = i → i ≤ 9 → U < 128 ^ (f + 1) → U * 128 ^ i < 18446744073709551616 → tkF (sof l) 0 (10 - i) i A = some (A + U * 128 ^ i, i + (vbF f U).length) := by
  intro f
  induction f with
  | zero =>
    intro U i A pre h hi h9 hU h64
    have hU' : U < 128 := by simpa using hU
    rw [vbF_small hU'] at h ⊢
    have hlen : i < l.length := by rw [h, List.length_append]; simp; omega
    have hb : bt (sof l) (0 + i) = U := by
      rw [Nat.zero_add, bt_sof l i hlen hl]
      simp only [h]
      rw [List.getElem_append_right (by omega)]
      simp
    have e : 10 - i = 10 - i - 1 + 1 := by omega
    rw [e, tkF_done (by rw [sof_size]; omega) ?_ (by rw [hb]; exact hU'), hb]
    · simp
    · rintro ⟨rfl, h1⟩
      rw [hb] at h1
      simp at h64
      omega
  | succ f ih =>
    intro U i A pre h hi h9 hU h64
    by_cases hs : U < 128
    · rw [vbF_small hs] at h ⊢
      have hlen : i < l.length := by rw [h, List.length_append]; simp; omega
      have hb : bt (sof l) (0 + i) = U := by
        rw [Nat.zero_add, bt_sof l i hlen hl]
        simp only [h]
        rw [List.getElem_append_right (by omega)]
        simp
      have e : 10 - i = 10 - i - 1 + 1 := by omega
      rw [e, tkF_done (by rw [sof_size]; omega) ?_ (by rw [hb]; exact hs), hb]
      · simp
      · rintro ⟨rfl, h1⟩
        rw [hb] at h1
        simp at h64
        omega
    · rw [vbF_big hs] at h ⊢
      have hlen : i < l.length := by rw [h, List.length_append]; simp; omega
      have hb : bt (sof l) (0 + i) = U % 128 + 128 := by
        rw [Nat.zero_add, bt_sof l i hlen hl]
        simp only [h]
        rw [List.getElem_append_right (by omega)]
        simp [hi]
      have hi8 : i ≠ 9 := by
        rintro rfl
        simp at h64
        omega
      have e : 10 - i = 10 - (i + 1) + 1 := by omega
      have hpow : U / 128 * 128 ^ (i + 1) ≤ U * 128 ^ i := by
        rw [Nat.pow_succ, Nat.mul_comm (128 ^ i) 128, ← Nat.mul_assoc]
        exact Nat.mul_le_mul_right _ (Nat.div_mul_le_self U 128)
      rw [e, tkF_next (by rw [sof_size]; omega) hi8 (by rw [hb]; omega), hb]
      rw [ih (U / 128) (i + 1) _ (pre ++ [U % 128 + 128]) (by rw [h]; simp) (by simp [hi]) (by omega) (by rw [Nat.pow_succ] at hU; omega) (by omega)]
      have e2 : (U % 128 + 128) % 128 = U % 128 := by omega
      have e3 : U * 128 ^ i = U % 128 * 128 ^ i + U / 128 * 128 ^ (i + 1) := by
        rw [Nat.pow_succ, Nat.mul_comm (128 ^ i) 128, ← Nat.mul_assoc, ← Nat.add_mul]
        congr 1
        omega
      rw [e2, e3]
      simp only [List.length_cons, Option.some.injEq, Prod.mk.injEq]
      omega

theorem tk_vb (u : Nat) (hu : u < 18446744073709551616) : tk (sof (vb u)) 0 = some (u, (vb u).length) := by
  have h := tkF_vb (vb u) (vbF_lt 10 u) 10 u 0 0 [] (by simp [vb]) rfl (by omega) (by simp; omega) (by simpa using hu)
  simpa [tk, vb] using h

theorem low_lo (l : List Nat) (hl : ∀ c ∈ l, c < 256) : ∀ (n u p : Nat) (pre : List Nat), l = pre ++ lo u n → pre.length = p → low (sof l) p n = u % 256 ^ n := by
  intro n
  induction n with
  | zero => intro u p pre _ _; simp [low]; omega
  | succ n ih =>
    intro u p pre h hp
    have hlen : p < l.length := by rw [h, List.length_append, lo_len]; omega
    have hb : bt (sof l) p = u % 256 := by
      rw [bt_sof l p hlen hl]
      simp only [h]
      rw [List.getElem_append_right (by omega)]
      simp [hp, lo]
    rw [low, hb, ih (u / 256) (p + 1) (pre ++ [u % 256]) (by rw [h, lo]; simp) (by simp [hp]), Nat.pow_succ, Nat.mul_comm (256 ^ n) 256, Nat.mod_mul]

theorem low_sof (u n : Nat) (h : u < 256 ^ n) : low (sof (lo u n)) 0 n = u := by
  rw [low_lo (lo u n) (lo_lt n u) n u 0 [] rfl rfl, Nat.mod_eq_of_lt h]

theorem fd_fb (x : Fld) (hx : fok x = true) (hin : FldIn x) (hs : x.b.size ≤ 16777216) : fd (sof (fb x)) 0 = some (x, (fb x).length) := by
  obtain ⟨ht1, ht2, ht3, ht4⟩ := tag_lt hx
  have hk := fok_kind hx
  have hn := fok_num hx
  obtain ⟨num, kind, u, b⟩ := x
  obtain ⟨-, -, -, -, hu0, hu1, -⟩ := hin
  simp only at hk hn hu0 hu1 ht3 ht4 hs
  generalize htt : tagOf ⟨num, kind, u, b⟩ = t at *
  have e1 : sof (fb ⟨num, kind, u, b⟩) = sof (vb t) ++ sof (tailOf ⟨num, kind, u, b⟩) := by rw [← sof_append, ← htt]; rfl
  have e2 : (fb ⟨num, kind, u, b⟩).length = (vb t).length + (tailOf ⟨num, kind, u, b⟩).length := by rw [← htt]; unfold fb; rw [List.length_append]
  have h1 := tk_vb t (by omega)
  rw [e1, e2]
  unfold fd
  rw [tk_left h1]
  have hq : (vb t).length = (sof (vb t)).size + 0 := by rw [sof_size]; omega
  simp only
  have hsz : (sof (tailOf ⟨num, kind, u, b⟩)).size = (tailOf ⟨num, kind, u, b⟩).length := sof_size _
  conv => lhs; rw [hq]
  rw [fdT_right _ _ _ _ (by omega)]
  have hnum : ((t / 8 : Nat) : Int) = num := by omega
  unfold fdT
  rw [if_neg (by omega), hnum]
  have key : ∀ {k : Int} {uu : Int} {bb : ByteArray} {r : Nat}, k = kind → uu = u → bb = b → r = (tailOf ⟨num, kind, u, b⟩).length → Option.map (fun x : Fld × Nat => (x.1, (sof (vb t)).size + x.2)) (some (⟨num, k, uu, bb⟩, r)) = some (⟨num, kind, u, b⟩, (vb t).length + (tailOf ⟨num, kind, u, b⟩).length) := by
    intro k uu bb r h1 h2 h3 h4
    subst h1 h2 h3 h4
    simp [sof_size]
  have hbe : b.size = 0 → ByteArray.empty = b := fun h => (ByteArray.ext (Array.eq_empty_of_size_eq_zero h)).symm
  rcases hk with ⟨rfl, hb⟩ | ⟨rfl, hb⟩ | ⟨rfl, hb, hu⟩ | ⟨rfl, hu⟩
  · rw [if_pos (by omega)]
    have et : tailOf ⟨num, 0, u, b⟩ = vb u.toNat := by simp [tailOf]
    rw [et, tk_vb _ (by omega), ← et]
    exact key rfl (by simp; omega) (hbe hb) (by rw [et])
  · rw [if_neg (by omega), if_pos (by omega)]
    have et : tailOf ⟨num, 1, u, b⟩ = lo u.toNat 8 := by simp [tailOf]
    rw [if_pos (by rw [hsz, et, lo_len]; omega)]
    refine key rfl ?_ (hbe hb) (by rw [et, lo_len])
    rw [et, low_sof _ _ (by simp; omega)]; omega
  · rw [if_neg (by omega), if_neg (by omega), if_pos (by omega)]
    have et : tailOf ⟨num, 5, u, b⟩ = lo u.toNat 4 := by simp [tailOf]
    rw [if_pos (by rw [hsz, et, lo_len]; omega)]
    refine key rfl ?_ (hbe hb) (by rw [et, lo_len])
    rw [et, low_sof _ _ (by simp; omega)]; omega
  · rw [if_neg (by omega), if_neg (by omega), if_neg (by omega), if_pos (by omega)]
    have et : tailOf ⟨num, 2, u, b⟩ = vb b.size ++ bytesOf b := by simp [tailOf]
    have h3 := tk_vb b.size (by omega)
    have h4 : tk (sof (vb b.size ++ bytesOf b)) 0 = some (b.size, (vb b.size).length) := by rw [sof_append]; exact tk_left h3
    rw [et, h4]
    simp only
    have h5 : (sof (vb b.size ++ bytesOf b)).size = (vb b.size).length + b.size := by rw [sof_size, List.length_append, bytesOf_len]
    rw [if_pos (by rw [h5]; omega), ← et]
    refine key rfl hu.symm ?_ (by rw [et, List.length_append, bytesOf_len])
    rw [et, sof_append]
    have h6 := ext_right (sof (vb b.size)) (sof (bytesOf b)) 0 b.size
    rw [sof_size, Nat.add_zero] at h6
    rw [h6, sof_bytes]
    first
      | exact ByteArray.extract_zero_size
      | (apply ByteArray.ext; rw [ByteArray.data_extract]; exact Array.extract_size)

theorem all_one (x : Fld) (hx : fok x = true) (hin : FldIn x) (hs : x.b.size ≤ 16777216) : all (fd (sof (fb x))) (sof (fb x)).size = some [x] := by
  have h := fd_fb x hx hin hs
  have h2 := (fb_len (x := x)).1
  have hz : (sof (fb x)).size = (fb x).length := sof_size _
  unfold all
  rw [allF_some (by omega) (by omega) h, allF_end (by omega)]
  rfl

theorem out_cons (x : Fld) (xs : List Fld) : sof ((x :: xs).flatMap fb) = sof (fb x) ++ sof (xs.flatMap fb) := by
  rw [List.flatMap_cons, sof_append]

theorem all_out : ∀ (xs : List Fld), (∀ x ∈ xs, fok x = true ∧ FldIn x ∧ x.b.size ≤ 16777216) → all (fd (sof (xs.flatMap fb))) (sof (xs.flatMap fb)).size = some xs := by
  intro xs
  induction xs with
  | nil => intro _; rfl
  | cons x xs ih =>
    intro h
    obtain ⟨h1, h2, h3⟩ := h x (by simp)
    have hj := all_join (all_one x h1 h2 h3) (ih (fun y hy => h y (by simp [hy])))
    rw [out_cons]
    exact hj

/-- Bytes of a field that is written are no more than all. -/
theorem size_in {xs : List Fld} (hx : ∀ x ∈ xs, fok x = true) (hl : (xs.flatMap fb).length ≤ 16777216) : ∀ x ∈ xs, x.b.size ≤ 16777216 := by
  intro x hm
  obtain ⟨a, b, rfl⟩ := List.append_of_mem hm
  rw [List.flatMap_append, List.flatMap_cons, List.length_append, List.length_append] at hl
  have hk := fok_kind (hx x hm)
  have h1 := bytesOf_len x.b
  have hf : (fb x).length ≤ 16777216 := by omega
  unfold fb tailOf at hf
  rw [List.length_append] at hf
  rcases hk with h | h | h | h
  · omega
  · omega
  · omega
  · rw [if_neg (by omega), if_neg (by omega), if_neg (by omega), List.length_append] at hf
    omega
end Go.Proofs.Ytoadpjegdhlphaa
