/- The document's among, One, Two, opt and must, by the walk (mkROf.py). -/
import Derived.Test.YtlmaobkfmplalaaDoorNRuleAll
import Derived.Test.YtlmaobkfmplalaaDoorNIdx
namespace Go.Proofs.YtlmaobkfmplalaaDoor
open Go.RowKit

/-- Is a text called so? -/
def eqS (x : ByteArray) (y : ByteArray) : Bool := y.toList == x.toList

set_option maxRecDepth 100000 in
set_option maxHeartbeats 1600000 in
theorem among_any (x : ByteArray) (v : Value) (xs : List ByteArray) (w : World) (hv : IsStrs w v xs) :
    Calls Tryd.prog 36 #[.string x, v] w fun e w' => e = .returned (.bool (xs.any (eqS x))) ∧ w.grownBy w' none := by
  have HV := hide hv
  obtain ⟨va, vc, rfl, h1, h2, h3⟩ := hv.form
  clear hv
  go_enter Tryd.func36, Tryd.ntmps36
  go_wp2_with fail
  go_loopw [5] (fun i wr => w.grownBy wr none ∧ ∃ k : Nat, k ≤ xs.length ∧ i = .int .i64 k ∧ (xs.take k).any (eqS x) = false) (fun i _ => xs.length - (intOf i).toNat)
  case atStart => exact ⟨grown_refl _, 0, Nat.zero_le _, rfl, rfl⟩
  case round =>
    obtain ⟨hg, k, hk, rfl, hno⟩ := hrel
    have HNO := hide hno
    clear hno
    by_cases hlt : k < xs.length
    · have HVk := HV.out.more hg
      obtain ⟨vb, vo, rfl⟩ := HVk.addr hlt
      have a0 := str_at HVk k hlt
      have HK : Hid (xs[k]? = some xs[k]) := List.getElem?_eq_getElem hlt
      obtain ⟨Y, hY⟩ : ∃ Y, Y = xs[k] := ⟨_, rfl⟩
      rw [← hY] at a0 HK
      clear HVk hY
      by_cases h : (Y.toList == x.toList) = true
      · have E : Hid (xs.any (eqS x) = true) := List.any_eq_true.2 ⟨Y, List.mem_of_getElem? HK.out, h⟩
        go_wp2
        go_ret
        exact ⟨by rw [E.out]; rfl, hg⟩
      · have h' : (Y.toList == x.toList) = false := by simpa using h
        have HN : Hid ((xs.take (k + 1)).any (eqS x) = false) := by
          show _ = _
          rw [List.take_add_one, List.any_append, HNO.out, HK.out]
          simp [eqS, h']
        clear h
        go_wp2
        go_roundw
        case rel => exact ⟨hg, k + 1, by omega, by go_num, HN.out⟩
        case measure => simp [intOf]; omega
    · obtain rfl : k = xs.length := by omega
      have E : Hid (xs.any (eqS x) = false) := by have := HNO.out; rwa [List.take_of_length_le (Nat.le_refl _)] at this
      go_wp2
      go_ret
      exact ⟨by rw [E.out]; rfl, hg⟩

theorem strs_lit (w : World) (xs : List ByteArray) (hx : 0 < xs.length) (hl : xs.length ≤ 100) : IsStrs (w.alloc (.cells (xs.map Value.string).toArray 9)) (.slice (some ⟨w.heap.size, 0, none⟩) xs.length xs.length) xs := by
  refine ⟨some ⟨w.heap.size, 0, none⟩, xs.length, rfl, Nat.le_refl _, by omega, by omega, (fun e => by cases e), fun _ => ⟨w.heap.size, 0, rfl, fun k hk j hj => ?_⟩⟩
  obtain rfl : j = 0 := by omega
  rw [Nat.zero_add, Nat.mul_one, Nat.add_zero, cell_of_row _ _ _ _ _ (0, 0) (heap_alloc_new w _)]
  simp [scell, hk]

def oneL : List ByteArray := [⟨#[73, 100, 101, 110, 116, 105, 116, 121]⟩, ⟨#[78, 101, 103]⟩, ⟨#[65, 98, 115]⟩, ⟨#[78, 111, 116]⟩, ⟨#[82, 101, 108, 117]⟩, ⟨#[83, 113, 114, 116]⟩, ⟨#[70, 108, 111, 111, 114]⟩, ⟨#[69, 120, 112]⟩, ⟨#[83, 105, 103, 109, 111, 105, 100]⟩, ⟨#[84, 97, 110, 104]⟩]

def twoL : List ByteArray := [⟨#[65, 100, 100]⟩, ⟨#[83, 117, 98]⟩, ⟨#[77, 117, 108]⟩, ⟨#[68, 105, 118]⟩, ⟨#[77, 97, 120]⟩, ⟨#[77, 105, 110]⟩, ⟨#[65, 110, 100]⟩, ⟨#[79, 114]⟩, ⟨#[88, 111, 114]⟩, ⟨#[69, 113, 117, 97, 108]⟩, ⟨#[76, 101, 115, 115]⟩, ⟨#[71, 114, 101, 97, 116, 101, 114]⟩]

def isTwo (s : ByteArray) : Bool := twoL.any (eqS s)

theorem one_same (s : ByteArray) : oneL.any (eqS s) = isOne s := by
  simp only [oneL, isOne, ones, List.any_cons, List.any_nil, eqS, bytes_toList]

set_option maxRecDepth 100000 in
set_option maxHeartbeats 1600000 in
theorem rone_any (s : ByteArray) (w : World) :
    Calls Tryd.prog 30 #[.string s] w fun e w' => e = .returned (.bool (isOne s)) ∧ w.grownBy w' none := by
  have AM := hide (among_any s _ oneL _ (strs_lit w oneL (by decide) (by decide)))
  rw [one_same] at AM
  go_enter Tryd.func30, Tryd.ntmps30
  go_wp2_with fail
  refine AM.out.mono ?_
  rintro e w1 ⟨rfl, hg1⟩
  go_wp2
  go_ret
  exact ⟨rfl, grown_trans (grown_new _ _) hg1⟩

set_option maxRecDepth 100000 in
set_option maxHeartbeats 1600000 in
theorem rtwo_any (s : ByteArray) (w : World) :
    Calls Tryd.prog 58 #[.string s] w fun e w' => e = .returned (.bool (isTwo s)) ∧ w.grownBy w' none := by
  have AM := hide (among_any s _ twoL _ (strs_lit w twoL (by decide) (by decide)))
  go_enter Tryd.func58, Tryd.ntmps58
  go_wp2_with fail
  refine AM.out.mono ?_
  rintro e w1 ⟨rfl, hg1⟩
  go_wp2
  go_ret
  exact ⟨rfl, grown_trans (grown_new _ _) hg1⟩

theorem infoFo : (Tryd.prog.info? 89).map (fun i => (i.zero, i.size, i.bytes)) = some (some (.agg #[.string ⟨#[]⟩, .int .i64 0, .bool false]), 3, 32) := by kernel_rfl

theorem foInfo : (Tryd.prog.info? 89).map (·.size) = some 3 := by kernel_rfl

theorem ret_fo {fn : Func} {p : Tmp} (h : fn.results = #[.cell p 89]) (tmps : Array Value) (w : World) (B : Nat) (hp : tmps.getD p undef = .pointer (some ⟨B, 0, none⟩)) {a b c : Value}
    (hb : w.heap[B]? = some (.cells #[a, b, c] 89 (0, 0))) : (results fn tmps).run Tryd.prog w = .ok (.agg #[a, b, c]) w :=
  results_cell_row h tmps w B 89 #[a, b, c] (0, 0) _ hp hb Tryd.underlying89 rfl (by rw [foInfo]; rfl)

set_option maxRecDepth 100000 in
set_option maxHeartbeats 1600000 in
theorem ropt_any (nm : ByteArray) (kd : Int) (w : World) :
    Calls Tryd.prog 59 #[.string nm, .int .i64 kd] w fun e w' => e = .returned (.agg #[.string nm, .int .i64 kd, .bool false]) ∧ w.grownBy w' none := by
  go_enter Tryd.func59, Tryd.ntmps59
  go_wp2
  refine bodyPost_ret (ret_fo rfl _ _ w.heap.size rfl (heap_alloc_new w _)) rfl ?_
  exact ⟨rfl, grown_new _ _⟩

set_option maxRecDepth 100000 in
set_option maxHeartbeats 1600000 in
theorem rmust_any (nm : ByteArray) (kd : Int) (w : World) :
    Calls Tryd.prog 60 #[.string nm, .int .i64 kd] w fun e w' => e = .returned (.agg #[.string nm, .int .i64 kd, .bool true]) ∧ w.grownBy w' none := by
  go_enter Tryd.func60, Tryd.ntmps60
  go_wp2
  refine bodyPost_ret (ret_fo rfl _ _ w.heap.size rfl (heap_alloc_new w _)) rfl ?_
  exact ⟨rfl, grown_new _ _⟩

theorem results_tmp4 {fn : Func} {t u v x : Tmp} (h : fn.results = #[.tmp t, .tmp u, .tmp v, .tmp x]) (tmps : Array Value) (P : Program) (w : World) :
    (results fn tmps).run P w = .ok (.tuple #[tmps.getD t undef, tmps.getD u undef, tmps.getD v undef, tmps.getD x undef]) w := by
  simp [results, h]

abbrev OwnsF (w : World) (base : Nat) (v : Value) (xs : List Ra) : Prop := OwnsL 89 3 rcells w base v xs

/-- What the document's of answers: the list is without then. -/
def Formed (r : Option (Int × Int × List Ra)) (w w' : World) (e : Ending) : Prop := match r with
  | none => e = .returned (.tuple #[.int .i64 0, .int .i64 0, .slice none 0 0, .bool false])
  | some (lo, hi, rs) => ∃ (v : Sl) (fs : List Ra), e = .returned (.tuple #[.int .i64 lo, .int .i64 hi, .slice v.a v.n v.c, .bool true]) ∧ rs = fs ++ [thenRa] ∧ OwnsF w' w.heap.size v.v fs

theorem forms_lit (w : World) (xs : List Ra) (hx : 0 < xs.length) (hl : xs.length ≤ 20) : OwnsF (w.alloc (.cells (xs.flatMap rcells).toArray 89)) w.heap.size (.slice (some ⟨w.heap.size, 0, none⟩) xs.length xs.length) xs := by
  refine ⟨flat_len rcells_len xs, Or.inr ⟨w.heap.size, xs.length, _, rfl, Nat.le_refl _, heap_alloc_new w _, Nat.le_refl _, by simp only [maxLen]; omega, ?_, ?_⟩⟩
  · rw [List.size_toArray, flat_len rcells_len]
  · exact List.take_of_length_le (by rw [flat_len rcells_len]; exact Nat.le_refl _)
end Go.Proofs.YtlmaobkfmplalaaDoor
