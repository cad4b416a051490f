/- A map from names to their places: what it says, and numbered, by the walk. -/
import Derived.Test.YtmdpeckeliplkaaDoorPartF
import Derived.Maps.OwnSet
import Derived.Maps.OwnOps
import Derived.Maps.Keyed
namespace Go.Proofs.YtmdpeckeliplkaaDoor
open Go.RowKit

theorem strKeyed : Maps.Keyed Tryd.prog 9 := Maps.string_keyed Tryd.underlying9

theorem key_str {s : ByteArray} (h : s.size ≤ 9223372036854775807) : keyOf Tryd.prog 9 (.string s) = some (.string s.data.toList) := by
  unfold keyOf
  rw [Tryd.underlying9]
  show mapKey Tryd.prog 9 (.string s) = _
  unfold mapKey
  rw [Tryd.underlying9]
  show (if s.size ≤ maxLen then some (Lit.string s.data.toList) else none) = _
  rw [if_pos (by simpa [maxLen] using h)]

/-- Is a name among others? -/
def inL (s : ByteArray) (l : List ByteArray) : Bool := l.any (fun x => x.data.toList == s.data.toList)

/-- A map that has the place of each name of a list. -/
def Nums (w : World) (b : Nat) (l : List ByteArray) : Prop := ∃ (D : DataW Unit) (n : Nat), w.ownsMap Tryd.prog 9 (plainElem Tryd.prog 3) b n D ∧ n ≤ l.length ∧
  (∀ s : ByteArray, Maps.has D (.string s.data.toList) = inL s l) ∧ ∀ (i : Nat) (x : ByteArray), l[i]? = some x → D.atKey (.string x.data.toList) (.lit (.int .i64 0)) = .lit (.int .i64 i)

theorem nums_nil (w : World) : Nums (w.alloc (.map #[] 0)) w.heap.size [] :=
  ⟨.map [], 0, World.ownsMap_made w _ _ _, Nat.le_refl _, fun s => rfl, fun i x h => by simp at h⟩

theorem Nums.more {w w' : World} {b : Nat} {l : List ByteArray} (h : Nums w b l) (hg : w.grownBy w' none) : Nums w' b l := by
  obtain ⟨D, n, h1, h2, h3, h4⟩ := h
  exact ⟨D, n, h1.kept hg (by simp), h2, h3, h4⟩

theorem nums_put {w' : World} {b n : Nat} {l : List ByteArray} {D : DataW Unit} {x : ByteArray} (hD : Maps.IsMap D) (hn : n ≤ l.length) (hh : ∀ s : ByteArray, Maps.has D (.string s.data.toList) = inL s l) (ha : ∀ (i : Nat) (x : ByteArray), l[i]? = some x → D.atKey (.string x.data.toList) (.lit (.int .i64 0)) = .lit (.int .i64 i)) (hx : inL x l = false)
    (h : w'.ownsMap Tryd.prog 9 (plainElem Tryd.prog 3) b (n + 1) (D.put (.string x.data.toList) (.lit (.int .i64 l.length)))) : Nums w' b (l ++ [x]) := by
  have hk : WideAt.IsKeyLit (.string x.data.toList) := by first | exact trivial | exact ⟨_, rfl⟩ | simp [WideAt.IsKeyLit]
  refine ⟨_, n + 1, h, by rw [List.length_append]; simp; omega, fun s => ?_, fun i y hy => ?_⟩
  · by_cases e : s.data.toList = x.data.toList
    · rw [e, Maps.has_put_same hD hk]
      unfold inL
      rw [List.any_append]
      simp [e]
    · rw [Maps.has_put_other (fun h => e (Lit.string.inj h)), hh]
      unfold inL
      rw [List.any_append]
      have : (x.data.toList == s.data.toList) = false := by rw [beq_eq_false_iff_ne]; exact fun h => e h.symm
      simp only [List.any_cons, this, List.any_nil, Bool.or_false]
  · by_cases hi : i < l.length
    · rw [List.getElem?_append_left hi] at hy
      have hne : y.data.toList ≠ x.data.toList := by
        intro e
        unfold inL at hx
        rw [List.any_eq_false] at hx
        exact hx y (List.mem_of_getElem? hy) (by rw [e]; simp)
      rw [Maps.atKey_put_other (fun h => hne (Lit.string.inj h))]
      exact ha i y hy
    · have hi2 : i = l.length := by
        have := (List.getElem?_eq_some_iff.1 hy).1
        rw [List.length_append] at this
        simp at this
        omega
      subst hi2
      rw [List.getElem?_append_right (Nat.le_refl _), Nat.sub_self] at hy
      obtain rfl : x = y := by simpa using hy
      exact Maps.atKey_put_same hD hk _ _

/-- How far a list's names are there and unlike: none, if one is not. -/
def namesOK : List ByteArray → List ByteArray → Bool
  | _, [] => true
  | acc, x :: l => !(inL x acc) && !(x.toList == []) && namesOK (acc ++ [x]) l

theorem namesOK_at {l : List ByteArray} {k : Nat} (hk : k < l.length) : namesOK (l.take k) (l.drop k) = (!(inL l[k] (l.take k)) && !(l[k].toList == []) && namesOK (l.take (k + 1)) (l.drop (k + 1))) := by
  rw [List.drop_eq_getElem_cons hk, namesOK, List.take_add_one, List.getElem?_eq_getElem hk]
  rfl

theorem run_make (n : Int) (w : World) : (Instr.makeMap 83 (some (.int .i64 n))).run Tryd.prog w = .ok (.map (some w.heap.size)) (w.alloc (.map #[] 0)) := by
  simp [Instr.makeMap, run_underlying Tryd.underlying83, asInt, asIntOf, Result.andThen]

theorem zeroInt (w : World) : (zeroValue 3).run Tryd.prog w = .ok (.int .i64 0) w := by kernel_rfl

set_option maxRecDepth 100000 in
set_option maxHeartbeats 3200000 in
theorem numbered_any (v : Value) (l : List ByteArray) (w : World) (hv : IsStrs w v l) (hs : ∀ x ∈ l, x.size ≤ 1048576) :
    Calls Tryd.prog 54 #[v] w fun e w' => w.grownBy w' none ∧ ((namesOK [] l = true ∧ ∃ b, w.heap.size ≤ b ∧ e = .returned (.tuple #[.map (some b), .bool true]) ∧ Nums w' b l) ∨ (namesOK [] l = false ∧ e = .returned (.tuple #[.map none, .bool false]))) := by
  have HV := hide hv
  have HS := hide hs
  obtain ⟨va, vc, rfl, h1, h2, h3⟩ := hv.form
  clear hv hs
  have mk := run_make (l.length : Int) w
  obtain ⟨w0, hw0⟩ : ∃ w0, w0 = w.alloc (.map #[] 0) := ⟨_, rfl⟩
  have g0 : w.grownBy w0 none := by rw [hw0]; exact grown_new _ _
  have S0 : Hid (w0.heap.size = w.heap.size + 1) := by show _ = _; rw [hw0]; simp
  have N0 : Hid (Nums w0 w.heap.size []) := by show Nums _ _ _; rw [hw0]; exact nums_nil w
  go_enter Tryd.func54, Tryd.ntmps54
  go_wp2_with fail
  rw [← hw0]
  clear hw0 mk
  go_loopw [14] (fun i wr => w0.grownBy wr (some w.heap.size) ∧ ∃ k : Nat, k ≤ l.length ∧ i = .int .i64 k ∧ Nums wr w.heap.size (l.take k) ∧ namesOK [] l = namesOK (l.take k) (l.drop k)) (fun i _ => l.length - (intOf i).toNat)
  case atStart => exact ⟨World.grownBy.refl _ _, 0, Nat.zero_le _, rfl, N0.out, rfl⟩
  case round =>
    obtain ⟨hg, k, hk, rfl, hnum, hok⟩ := hrel
    have HNM := hide hnum
    have HOK := hide hok
    have GW : Hid (w.grownBy wr none) := grown_trans_row g0 hg (fun r e => by cases e; exact Nat.le_refl _)
    clear hnum hok
    by_cases hlt : k < l.length
    · have HVk := HV.out.more GW.out
      obtain ⟨vb, vo, rfl⟩ := HVk.addr hlt
      have a0 := str_at HVk k hlt
      have HN1 := hide (namesOK_at hlt)
      have HX : Hid (l[k].size ≤ 1048576) := HS.out _ (List.getElem_mem hlt)
      have HT : Hid (l.take (k + 1) = l.take k ++ [l[k]]) := by show _ = _; rw [List.take_add_one, List.getElem?_eq_getElem hlt]; rfl
      have HTL : Hid ((l.take k).length = k) := by show _ = _; rw [List.length_take]; omega
      obtain ⟨X, hX⟩ : ∃ X, X = l[k] := ⟨_, rfl⟩
      rw [← hX] at a0 HN1 HX HT
      clear HVk hX
      obtain ⟨D, n, d1, d2, d3, d4⟩ := HNM.out
      have D1 := hide d1
      have D3 := hide d3
      have KX : Hid (keyOf Tryd.prog 9 (.string X) = some (.string X.data.toList)) := key_str (by have := HX.out; omega)
      have hnk : n ≤ k := by have := HTL.out; omega
      clear d1 d3
      cases hin : inL X (l.take k) with
      | true =>
        have hhas : Maps.has D (.string X.data.toList) = true := (D3.out X).trans hin
        have E : Hid (namesOK [] l = false) := by show _ = _; rw [HOK.out, HN1.out, hin]; rfl
        clear hin
        go_wp2_with (at_lookup; refine wpList_lookup_own_ok_int _ rfl (.tmp 20) (.tmp 21) 83 rfl 9 3 .i64 strKeyed Tryd.underlying83 Tryd.underlying3 (zeroInt _) w.heap.size n D rfl D1.out (.string X) (.string X.data.toList) rfl KX.out ?_; intro cc hat hwc; rw [hhas])
        go_ret2
        exact ⟨GW.out, Or.inr ⟨E.out, rfl⟩⟩
      | false =>
        have hhas : Maps.has D (.string X.data.toList) = false := (D3.out X).trans hin
        have HIN := hide hin
        clear hin
        by_cases hem : (X.toList == []) = true
        · have E : Hid (namesOK [] l = false) := by show _ = _; rw [HOK.out, HN1.out, HIN.out, hem]; rfl
          go_wp2_with (at_lookup; refine wpList_lookup_own_ok_int _ rfl (.tmp 20) (.tmp 21) 83 rfl 9 3 .i64 strKeyed Tryd.underlying83 Tryd.underlying3 (zeroInt _) w.heap.size n D rfl D1.out (.string X) (.string X.data.toList) rfl KX.out ?_; intro cc hat hwc; rw [hhas])
          go_ret2
          exact ⟨GW.out, Or.inr ⟨E.out, rfl⟩⟩
        · have hem' : (X.toList == []) = false := by simpa using hem
          have E : Hid (namesOK [] l = namesOK (l.take (k + 1)) (l.drop (k + 1))) := by show _ = _; rw [HOK.out, HN1.out, HIN.out, hem']; rfl
          have hwf : plainElem (H := Unit) Tryd.prog 3 (.int .i64 (k : Int)) = some (.lit (.int .i64 (k : Int)), []) := plainElem_int Tryd.underlying3 (by have e : IntKind.i64.min = -9223372036854775808 := (by decide); have e2 : IntKind.i64.max = 9223372036854775807 := (by decide); simp [Lit.wf, e, e2]; omega)
          have HWF := hide hwf
          clear hem hwf
          go_wp2_with (first | (at_lookup; refine wpList_lookup_own_ok_int _ rfl (.tmp 20) (.tmp 21) 83 rfl 9 3 .i64 strKeyed Tryd.underlying83 Tryd.underlying3 (zeroInt _) w.heap.size n D rfl D1.out (.string X) (.string X.data.toList) rfl KX.out ?_; intro cc hat hwc; rw [hhas]) | (at_mapUpdate; refine wpList_mapUpdate_own _ rfl (.tmp 30) (.tmp 31) (.tmp 32) 83 rfl 9 3 strKeyed Tryd.underlying83 (plainElem Tryd.prog 3) w.heap.size n D rfl D1.out (by simp only [maxLen]; omega) (.string X) (.int .i64 (k : Int)) (.string X.data.toList) rfl rfl KX.out (.lit (.int .i64 (k : Int))) [] HWF.out ?_; intro w5 hown5 hgrow5))
          have ST : Hid (Nums w5 w.heap.size (l.take (k + 1))) := by
            show Nums _ _ _
            rw [HT.out]
            exact nums_put D1.out.isMap (by have := HTL.out; omega) D3.out d4 HIN.out (by have e := HTL.out; rw [e]; exact hown5)
          have G5 : Hid (w0.grownBy w5 (some w.heap.size)) := grown_same hg hgrow5
          clear hown5 hgrow5
          go_roundw
          case rel => exact ⟨G5.out, k + 1, by omega, by go_num, ST.out, E.out⟩
          case measure => simp [intOf]; omega
    · obtain rfl : k = l.length := by omega
      have E : Hid (namesOK [] l = true) := by show _ = _; rw [HOK.out, List.drop_of_length_le (Nat.le_refl _)]; rfl
      rw [List.take_of_length_le (Nat.le_refl _)] at HNM
      go_wp2
      go_ret2
      exact ⟨GW.out, Or.inl ⟨E.out, w.heap.size, Nat.le_refl _, rfl, HNM.out⟩⟩

set_option maxRecDepth 100000 in
set_option maxHeartbeats 3200000 in
theorem allin_any (b : Nat) (v : Value) (l xs : List ByteArray) (w : World) (hn : Nums w b l) (hv : IsStrs w v xs) (hs : ∀ x ∈ xs, x.size ≤ 1048576) :
    Calls Tryd.prog 68 #[.map (some b), v] w fun e w' => e = .returned (.bool (xs.all (fun x => inL x l))) ∧ w' = w := by
  have HV := hide hv
  have HS := hide hs
  obtain ⟨va, vc, rfl, h1, h2, h3⟩ := hv.form
  obtain ⟨D, n, d1, d2, d3, d4⟩ := hn
  have D1 := hide d1
  have D3 := hide d3
  clear hv hs d1 d3 d4
  go_enter Tryd.func68, Tryd.ntmps68
  go_wp2_with fail
  go_loopw [11] (fun i wr => wr = w ∧ ∃ k : Nat, k ≤ xs.length ∧ i = .int .i64 k ∧ (xs.take k).all (fun x => inL x l) = true) (fun i _ => xs.length - (intOf i).toNat)
  case atStart => exact ⟨rfl, 0, Nat.zero_le _, rfl, rfl⟩
  case round =>
    obtain ⟨rfl, k, hk, rfl, hall⟩ := hrel
    have HALL := hide hall
    clear hall
    by_cases hlt : k < xs.length
    · have HVk := HV.out
      obtain ⟨vb, vo, rfl⟩ := HVk.addr hlt
      have a0 := str_at HVk k hlt
      have HX : Hid (xs[k].size ≤ 1048576) := HS.out _ (List.getElem_mem hlt)
      have HK : Hid (xs[k]? = some xs[k]) := List.getElem?_eq_getElem hlt
      obtain ⟨X, hX⟩ : ∃ X, X = xs[k] := ⟨_, rfl⟩
      rw [← hX] at a0 HX HK
      clear HVk hX
      have KX : Hid (keyOf Tryd.prog 9 (.string X) = some (.string X.data.toList)) := key_str (by have := HX.out; omega)
      cases hin : inL X l with
      | true =>
        have hhas : Maps.has D (.string X.data.toList) = true := (D3.out X).trans hin
        have HN : Hid ((xs.take (k + 1)).all (fun x => inL x l) = true) := by show _ = _; rw [List.take_add_one, List.all_append, HALL.out, HK.out]; simp [hin]
        clear hin
        go_wp2_with (at_lookup; refine wpList_lookup_own_ok_int _ rfl (.tmp 16) (.tmp 17) 83 rfl 9 3 .i64 strKeyed Tryd.underlying83 Tryd.underlying3 (zeroInt _) b n D rfl D1.out (.string X) (.string X.data.toList) rfl KX.out ?_; intro cc hat hwc; rw [hhas])
        go_roundw
        case rel => exact ⟨by trivial, k + 1, by omega, by go_num, HN.out⟩
        case measure => simp [intOf]; omega
      | false =>
        have hhas : Maps.has D (.string X.data.toList) = false := (D3.out X).trans hin
        have E : Hid (xs.all (fun x => inL x l) = false) := by show _ = _; rw [List.all_eq_false]; exact ⟨X, List.mem_of_getElem? HK.out, by rw [hin]; decide⟩
        clear hin
        go_wp2_with (at_lookup; refine wpList_lookup_own_ok_int _ rfl (.tmp 16) (.tmp 17) 83 rfl 9 3 .i64 strKeyed Tryd.underlying83 Tryd.underlying3 (zeroInt _) b n D rfl D1.out (.string X) (.string X.data.toList) rfl KX.out ?_; intro cc hat hwc; rw [hhas])
        go_ret
        exact ⟨by rw [E.out]; rfl, rfl⟩
    · obtain rfl : k = xs.length := by omega
      have E : Hid (xs.all (fun x => inL x l) = true) := by have := HALL.out; rwa [List.take_of_length_le (Nat.le_refl _)] at this
      go_wp2
      go_ret
      exact ⟨by rw [E.out]; rfl, rfl⟩
end Go.Proofs.YtmdpeckeliplkaaDoor
