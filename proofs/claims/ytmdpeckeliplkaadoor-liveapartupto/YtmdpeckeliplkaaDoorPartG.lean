/- Joined texts: NRAmong, NROfA, NROfB, NROf. -/
import Derived.Test.YtmdpeckeliplkaaDoorPartD
import Derived.Test.YtmdpeckeliplkaaDoorPartC
/- The document's among, One, Two, opt and must, by the walk (mkROf.py). -/
namespace Go.Proofs.YtmdpeckeliplkaaDoor
open Go.RowKit

/-- Is a text called so? -/
def eqS (x : ByteArray) (y : ByteArray) : Bool := y.toList == x.toList

set_option maxRecDepth 100000 in
set_option maxHeartbeats 1600000 in
theorem among_any (x : ByteArray) (v : Value) (xs : List ByteArray) (w : World) (hv : IsStrs w v xs) :
    Calls Tryd.prog 74 #[.string x, v] w fun e w' => e = .returned (.bool (xs.any (eqS x))) ∧ w.grownBy w' none := by
  have HV := hide hv
  obtain ⟨va, vc, rfl, h1, h2, h3⟩ := hv.form
  clear hv
  go_enter Tryd.func74, Tryd.ntmps74
  go_wp2_with fail
  go_loopw [5] (fun i wr => w.grownBy wr none ∧ ∃ k : Nat, k ≤ xs.length ∧ i = .int .i64 k ∧ (xs.take k).any (eqS x) = false) (fun i _ => xs.length - (intOf i).toNat)
  case atStart => exact ⟨grown_refl _, 0, Nat.zero_le _, rfl, rfl⟩
  case round =>
    obtain ⟨hg, k, hk, rfl, hno⟩ := hrel
    have HNO := hide hno
    clear hno
    by_cases hlt : k < xs.length
    · have HVk := HV.out.more hg
      obtain ⟨vb, vo, rfl⟩ := HVk.addr hlt
      have a0 := str_at HVk k hlt
      have HK : Hid (xs[k]? = some xs[k]) := List.getElem?_eq_getElem hlt
      obtain ⟨Y, hY⟩ : ∃ Y, Y = xs[k] := ⟨_, rfl⟩
      rw [← hY] at a0 HK
      clear HVk hY
      by_cases h : (Y.toList == x.toList) = true
      · have E : Hid (xs.any (eqS x) = true) := List.any_eq_true.2 ⟨Y, List.mem_of_getElem? HK.out, h⟩
        go_wp2
        go_ret
        exact ⟨by rw [E.out]; rfl, hg⟩
      · have h' : (Y.toList == x.toList) = false := by simpa using h
        have HN : Hid ((xs.take (k + 1)).any (eqS x) = false) := by
          show _ = _
          rw [List.take_add_one, List.any_append, HNO.out, HK.out]
          simp [eqS, h']
        clear h
        go_wp2
        go_roundw
        case rel => exact ⟨hg, k + 1, by omega, by go_num, HN.out⟩
        case measure => simp [intOf]; omega
    · obtain rfl : k = xs.length := by omega
      have E : Hid (xs.any (eqS x) = false) := by have := HNO.out; rwa [List.take_of_length_le (Nat.le_refl _)] at this
      go_wp2
      go_ret
      exact ⟨by rw [E.out]; rfl, hg⟩

theorem strs_lit (w : World) (xs : List ByteArray) (hx : 0 < xs.length) (hl : xs.length ≤ 100) : IsStrs (w.alloc (.cells (xs.map Value.string).toArray 9)) (.slice (some ⟨w.heap.size, 0, none⟩) xs.length xs.length) xs := by
  refine ⟨some ⟨w.heap.size, 0, none⟩, xs.length, rfl, Nat.le_refl _, by omega, by omega, (fun e => by cases e), fun _ => ⟨w.heap.size, 0, rfl, fun k hk j hj => ?_⟩⟩
  obtain rfl : j = 0 := by omega
  rw [Nat.zero_add, Nat.mul_one, Nat.add_zero, cell_of_row _ _ _ _ _ (0, 0) (heap_alloc_new w _)]
  simp [scell, hk]

def oneL : List ByteArray := [⟨#[73, 100, 101, 110, 116, 105, 116, 121]⟩, ⟨#[78, 101, 103]⟩, ⟨#[65, 98, 115]⟩, ⟨#[78, 111, 116]⟩, ⟨#[82, 101, 108, 117]⟩, ⟨#[83, 113, 114, 116]⟩, ⟨#[70, 108, 111, 111, 114]⟩, ⟨#[69, 120, 112]⟩, ⟨#[83, 105, 103, 109, 111, 105, 100]⟩, ⟨#[84, 97, 110, 104]⟩]

def twoL : List ByteArray := [⟨#[65, 100, 100]⟩, ⟨#[83, 117, 98]⟩, ⟨#[77, 117, 108]⟩, ⟨#[68, 105, 118]⟩, ⟨#[77, 97, 120]⟩, ⟨#[77, 105, 110]⟩, ⟨#[65, 110, 100]⟩, ⟨#[79, 114]⟩, ⟨#[88, 111, 114]⟩, ⟨#[69, 113, 117, 97, 108]⟩, ⟨#[76, 101, 115, 115]⟩, ⟨#[71, 114, 101, 97, 116, 101, 114]⟩]

def isTwo (s : ByteArray) : Bool := twoL.any (eqS s)

theorem one_same (s : ByteArray) : oneL.any (eqS s) = isOne s := by
  simp only [oneL, isOne, ones, List.any_cons, List.any_nil, eqS, bytes_toList]

set_option maxRecDepth 100000 in
set_option maxHeartbeats 1600000 in
theorem rone_any (s : ByteArray) (w : World) :
    Calls Tryd.prog 86 #[.string s] w fun e w' => e = .returned (.bool (isOne s)) ∧ w.grownBy w' none := by
  have AM := hide (among_any s _ oneL _ (strs_lit w oneL (by decide) (by decide)))
  rw [one_same] at AM
  go_enter Tryd.func86, Tryd.ntmps86
  go_wp2_with fail
  refine AM.out.mono ?_
  rintro e w1 ⟨rfl, hg1⟩
  go_wp2
  go_ret
  exact ⟨rfl, grown_trans (grown_new _ _) hg1⟩

set_option maxRecDepth 100000 in
set_option maxHeartbeats 1600000 in
theorem rtwo_any (s : ByteArray) (w : World) :
    Calls Tryd.prog 87 #[.string s] w fun e w' => e = .returned (.bool (isTwo s)) ∧ w.grownBy w' none := by
  have AM := hide (among_any s _ twoL _ (strs_lit w twoL (by decide) (by decide)))
  go_enter Tryd.func87, Tryd.ntmps87
  go_wp2_with fail
  refine AM.out.mono ?_
  rintro e w1 ⟨rfl, hg1⟩
  go_wp2
  go_ret
  exact ⟨rfl, grown_trans (grown_new _ _) hg1⟩

theorem infoFo : (Tryd.prog.info? 133).map (fun i => (i.zero, i.size, i.bytes)) = some (some (.agg #[.string ⟨#[]⟩, .int .i64 0, .bool false]), 3, 32) := by kernel_rfl

theorem foInfo : (Tryd.prog.info? 133).map (·.size) = some 3 := by kernel_rfl

theorem ret_fo {fn : Func} {p : Tmp} (h : fn.results = #[.cell p 133]) (tmps : Array Value) (w : World) (B : Nat) (hp : tmps.getD p undef = .pointer (some ⟨B, 0, none⟩)) {a b c : Value}
    (hb : w.heap[B]? = some (.cells #[a, b, c] 133 (0, 0))) : (results fn tmps).run Tryd.prog w = .ok (.agg #[a, b, c]) w :=
  results_cell_row h tmps w B 133 #[a, b, c] (0, 0) _ hp hb Tryd.underlying133 rfl (by rw [foInfo]; rfl)

set_option maxRecDepth 100000 in
set_option maxHeartbeats 1600000 in
theorem ropt_any (nm : ByteArray) (kd : Int) (w : World) :
    Calls Tryd.prog 88 #[.string nm, .int .i64 kd] w fun e w' => e = .returned (.agg #[.string nm, .int .i64 kd, .bool false]) ∧ w.grownBy w' none := by
  go_enter Tryd.func88, Tryd.ntmps88
  go_wp2
  refine bodyPost_ret (ret_fo rfl _ _ w.heap.size rfl (heap_alloc_new w _)) rfl ?_
  exact ⟨rfl, grown_new _ _⟩

set_option maxRecDepth 100000 in
set_option maxHeartbeats 1600000 in
theorem rmust_any (nm : ByteArray) (kd : Int) (w : World) :
    Calls Tryd.prog 89 #[.string nm, .int .i64 kd] w fun e w' => e = .returned (.agg #[.string nm, .int .i64 kd, .bool true]) ∧ w.grownBy w' none := by
  go_enter Tryd.func89, Tryd.ntmps89
  go_wp2
  refine bodyPost_ret (ret_fo rfl _ _ w.heap.size rfl (heap_alloc_new w _)) rfl ?_
  exact ⟨rfl, grown_new _ _⟩

theorem results_tmp4 {fn : Func} {t u v x : Tmp} (h : fn.results = #[.tmp t, .tmp u, .tmp v, .tmp x]) (tmps : Array Value) (P : Program) (w : World) :
    (results fn tmps).run P w = .ok (.tuple #[tmps.getD t undef, tmps.getD u undef, tmps.getD v undef, tmps.getD x undef]) w := by
  simp [results, h]

abbrev OwnsF (w : World) (base : Nat) (v : Value) (xs : List Ra) : Prop := OwnsL 133 3 rcells w base v xs

/-- What the document's of answers: the list is without then. -/
def Formed (r : Option (Int × Int × List Ra)) (w w' : World) (e : Ending) : Prop := match r with
  | none => e = .returned (.tuple #[.int .i64 0, .int .i64 0, .slice none 0 0, .bool false])
  | some (lo, hi, rs) => ∃ (v : Sl) (fs : List Ra), e = .returned (.tuple #[.int .i64 lo, .int .i64 hi, .slice v.a v.n v.c, .bool true]) ∧ rs = fs ++ [thenRa] ∧ OwnsF w' w.heap.size v.v fs

theorem forms_lit (w : World) (xs : List Ra) (hx : 0 < xs.length) (hl : xs.length ≤ 20) : OwnsF (w.alloc (.cells (xs.flatMap rcells).toArray 133)) w.heap.size (.slice (some ⟨w.heap.size, 0, none⟩) xs.length xs.length) xs := by
  refine ⟨flat_len rcells_len xs, Or.inr ⟨w.heap.size, xs.length, _, rfl, Nat.le_refl _, heap_alloc_new w _, Nat.le_refl _, by simp only [maxLen]; omega, ?_, ?_⟩⟩
  · rw [List.size_toArray, flat_len rcells_len]
  · exact List.take_of_length_le (by rw [flat_len rcells_len]; exact Nat.le_refl _)
end Go.Proofs.YtmdpeckeliplkaaDoor

/- The document's of, operator by operator (mkROf.py). -/
namespace Go.Proofs.YtmdpeckeliplkaaDoor
open Go.RowKit

set_option maxRecDepth 100000 in
set_option maxHeartbeats 1600000 in
theorem rof_Identity (w : World) :
    Calls Tryd.prog 73 #[.string ⟨#[73, 100, 101, 110, 116, 105, 116, 121]⟩] w fun e w' => Formed (some (1, 1, [thenRa])) w w' e ∧ w.grownBy w' none := by
  have e1 : isOne ⟨#[73, 100, 101, 110, 116, 105, 116, 121]⟩ = true := by simp only [isOne, bytes_toList]; rfl
  have O1 := hide (rone_any ⟨#[73, 100, 101, 110, 116, 105, 116, 121]⟩ w)
  rw [e1] at O1
  clear e1
  go_enter Tryd.func73, Tryd.ntmps73
  go_wp2_with fail
  refine O1.out.mono ?_
  rintro e v0 ⟨rfl, h0⟩
  have h1 := h0
  obtain ⟨v1, rfl⟩ : ∃ v1, v1 = v0 := ⟨_, rfl⟩
  go_wp2
  refine bodyPost_ret (results_tmp4 rfl _ _ _) rfl ?_
  exact ⟨⟨⟨none, 0, 0⟩, [], rfl, rfl, OwnsL.nil ..⟩, h1⟩

set_option maxRecDepth 100000 in
set_option maxHeartbeats 1600000 in
theorem rof_Neg (w : World) :
    Calls Tryd.prog 73 #[.string ⟨#[78, 101, 103]⟩] w fun e w' => Formed (some (1, 1, [thenRa])) w w' e ∧ w.grownBy w' none := by
  have e1 : isOne ⟨#[78, 101, 103]⟩ = true := by simp only [isOne, bytes_toList]; rfl
  have O1 := hide (rone_any ⟨#[78, 101, 103]⟩ w)
  rw [e1] at O1
  clear e1
  go_enter Tryd.func73, Tryd.ntmps73
  go_wp2_with fail
  refine O1.out.mono ?_
  rintro e v0 ⟨rfl, h0⟩
  have h1 := h0
  obtain ⟨v1, rfl⟩ : ∃ v1, v1 = v0 := ⟨_, rfl⟩
  go_wp2
  refine bodyPost_ret (results_tmp4 rfl _ _ _) rfl ?_
  exact ⟨⟨⟨none, 0, 0⟩, [], rfl, rfl, OwnsL.nil ..⟩, h1⟩

set_option maxRecDepth 100000 in
set_option maxHeartbeats 1600000 in
theorem rof_Abs (w : World) :
    Calls Tryd.prog 73 #[.string ⟨#[65, 98, 115]⟩] w fun e w' => Formed (some (1, 1, [thenRa])) w w' e ∧ w.grownBy w' none := by
  have e1 : isOne ⟨#[65, 98, 115]⟩ = true := by simp only [isOne, bytes_toList]; rfl
  have O1 := hide (rone_any ⟨#[65, 98, 115]⟩ w)
  rw [e1] at O1
  clear e1
  go_enter Tryd.func73, Tryd.ntmps73
  go_wp2_with fail
  refine O1.out.mono ?_
  rintro e v0 ⟨rfl, h0⟩
  have h1 := h0
  obtain ⟨v1, rfl⟩ : ∃ v1, v1 = v0 := ⟨_, rfl⟩
  go_wp2
  refine bodyPost_ret (results_tmp4 rfl _ _ _) rfl ?_
  exact ⟨⟨⟨none, 0, 0⟩, [], rfl, rfl, OwnsL.nil ..⟩, h1⟩

set_option maxRecDepth 100000 in
set_option maxHeartbeats 1600000 in
theorem rof_Not (w : World) :
    Calls Tryd.prog 73 #[.string ⟨#[78, 111, 116]⟩] w fun e w' => Formed (some (1, 1, [thenRa])) w w' e ∧ w.grownBy w' none := by
  have e1 : isOne ⟨#[78, 111, 116]⟩ = true := by simp only [isOne, bytes_toList]; rfl
  have O1 := hide (rone_any ⟨#[78, 111, 116]⟩ w)
  rw [e1] at O1
  clear e1
  go_enter Tryd.func73, Tryd.ntmps73
  go_wp2_with fail
  refine O1.out.mono ?_
  rintro e v0 ⟨rfl, h0⟩
  have h1 := h0
  obtain ⟨v1, rfl⟩ : ∃ v1, v1 = v0 := ⟨_, rfl⟩
  go_wp2
  refine bodyPost_ret (results_tmp4 rfl _ _ _) rfl ?_
  exact ⟨⟨⟨none, 0, 0⟩, [], rfl, rfl, OwnsL.nil ..⟩, h1⟩

set_option maxRecDepth 100000 in
set_option maxHeartbeats 1600000 in
theorem rof_Relu (w : World) :
    Calls Tryd.prog 73 #[.string ⟨#[82, 101, 108, 117]⟩] w fun e w' => Formed (some (1, 1, [thenRa])) w w' e ∧ w.grownBy w' none := by
  have e1 : isOne ⟨#[82, 101, 108, 117]⟩ = true := by simp only [isOne, bytes_toList]; rfl
  have O1 := hide (rone_any ⟨#[82, 101, 108, 117]⟩ w)
  rw [e1] at O1
  clear e1
  go_enter Tryd.func73, Tryd.ntmps73
  go_wp2_with fail
  refine O1.out.mono ?_
  rintro e v0 ⟨rfl, h0⟩
  have h1 := h0
  obtain ⟨v1, rfl⟩ : ∃ v1, v1 = v0 := ⟨_, rfl⟩
  go_wp2
  refine bodyPost_ret (results_tmp4 rfl _ _ _) rfl ?_
  exact ⟨⟨⟨none, 0, 0⟩, [], rfl, rfl, OwnsL.nil ..⟩, h1⟩

set_option maxRecDepth 100000 in
set_option maxHeartbeats 1600000 in
theorem rof_Sqrt (w : World) :
    Calls Tryd.prog 73 #[.string ⟨#[83, 113, 114, 116]⟩] w fun e w' => Formed (some (1, 1, [thenRa])) w w' e ∧ w.grownBy w' none := by
  have e1 : isOne ⟨#[83, 113, 114, 116]⟩ = true := by simp only [isOne, bytes_toList]; rfl
  have O1 := hide (rone_any ⟨#[83, 113, 114, 116]⟩ w)
  rw [e1] at O1
  clear e1
  go_enter Tryd.func73, Tryd.ntmps73
  go_wp2_with fail
  refine O1.out.mono ?_
  rintro e v0 ⟨rfl, h0⟩
  have h1 := h0
  obtain ⟨v1, rfl⟩ : ∃ v1, v1 = v0 := ⟨_, rfl⟩
  go_wp2
  refine bodyPost_ret (results_tmp4 rfl _ _ _) rfl ?_
  exact ⟨⟨⟨none, 0, 0⟩, [], rfl, rfl, OwnsL.nil ..⟩, h1⟩

set_option maxRecDepth 100000 in
set_option maxHeartbeats 1600000 in
theorem rof_Floor (w : World) :
    Calls Tryd.prog 73 #[.string ⟨#[70, 108, 111, 111, 114]⟩] w fun e w' => Formed (some (1, 1, [thenRa])) w w' e ∧ w.grownBy w' none := by
  have e1 : isOne ⟨#[70, 108, 111, 111, 114]⟩ = true := by simp only [isOne, bytes_toList]; rfl
  have O1 := hide (rone_any ⟨#[70, 108, 111, 111, 114]⟩ w)
  rw [e1] at O1
  clear e1
  go_enter Tryd.func73, Tryd.ntmps73
  go_wp2_with fail
  refine O1.out.mono ?_
  rintro e v0 ⟨rfl, h0⟩
  have h1 := h0
  obtain ⟨v1, rfl⟩ : ∃ v1, v1 = v0 := ⟨_, rfl⟩
  go_wp2
  refine bodyPost_ret (results_tmp4 rfl _ _ _) rfl ?_
  exact ⟨⟨⟨none, 0, 0⟩, [], rfl, rfl, OwnsL.nil ..⟩, h1⟩

set_option maxRecDepth 100000 in
set_option maxHeartbeats 1600000 in
theorem rof_Exp (w : World) :
    Calls Tryd.prog 73 #[.string ⟨#[69, 120, 112]⟩] w fun e w' => Formed (some (1, 1, [thenRa])) w w' e ∧ w.grownBy w' none := by
  have e1 : isOne ⟨#[69, 120, 112]⟩ = true := by simp only [isOne, bytes_toList]; rfl
  have O1 := hide (rone_any ⟨#[69, 120, 112]⟩ w)
  rw [e1] at O1
  clear e1
  go_enter Tryd.func73, Tryd.ntmps73
  go_wp2_with fail
  refine O1.out.mono ?_
  rintro e v0 ⟨rfl, h0⟩
  have h1 := h0
  obtain ⟨v1, rfl⟩ : ∃ v1, v1 = v0 := ⟨_, rfl⟩
  go_wp2
  refine bodyPost_ret (results_tmp4 rfl _ _ _) rfl ?_
  exact ⟨⟨⟨none, 0, 0⟩, [], rfl, rfl, OwnsL.nil ..⟩, h1⟩

set_option maxRecDepth 100000 in
set_option maxHeartbeats 1600000 in
theorem rof_Sigmoid (w : World) :
    Calls Tryd.prog 73 #[.string ⟨#[83, 105, 103, 109, 111, 105, 100]⟩] w fun e w' => Formed (some (1, 1, [thenRa])) w w' e ∧ w.grownBy w' none := by
  have e1 : isOne ⟨#[83, 105, 103, 109, 111, 105, 100]⟩ = true := by simp only [isOne, bytes_toList]; rfl
  have O1 := hide (rone_any ⟨#[83, 105, 103, 109, 111, 105, 100]⟩ w)
  rw [e1] at O1
  clear e1
  go_enter Tryd.func73, Tryd.ntmps73
  go_wp2_with fail
  refine O1.out.mono ?_
  rintro e v0 ⟨rfl, h0⟩
  have h1 := h0
  obtain ⟨v1, rfl⟩ : ∃ v1, v1 = v0 := ⟨_, rfl⟩
  go_wp2
  refine bodyPost_ret (results_tmp4 rfl _ _ _) rfl ?_
  exact ⟨⟨⟨none, 0, 0⟩, [], rfl, rfl, OwnsL.nil ..⟩, h1⟩

set_option maxRecDepth 100000 in
set_option maxHeartbeats 1600000 in
theorem rof_Tanh (w : World) :
    Calls Tryd.prog 73 #[.string ⟨#[84, 97, 110, 104]⟩] w fun e w' => Formed (some (1, 1, [thenRa])) w w' e ∧ w.grownBy w' none := by
  have e1 : isOne ⟨#[84, 97, 110, 104]⟩ = true := by simp only [isOne, bytes_toList]; rfl
  have O1 := hide (rone_any ⟨#[84, 97, 110, 104]⟩ w)
  rw [e1] at O1
  clear e1
  go_enter Tryd.func73, Tryd.ntmps73
  go_wp2_with fail
  refine O1.out.mono ?_
  rintro e v0 ⟨rfl, h0⟩
  have h1 := h0
  obtain ⟨v1, rfl⟩ : ∃ v1, v1 = v0 := ⟨_, rfl⟩
  go_wp2
  refine bodyPost_ret (results_tmp4 rfl _ _ _) rfl ?_
  exact ⟨⟨⟨none, 0, 0⟩, [], rfl, rfl, OwnsL.nil ..⟩, h1⟩

set_option maxRecDepth 100000 in
set_option maxHeartbeats 1600000 in
theorem rof_Add (w : World) :
    Calls Tryd.prog 73 #[.string ⟨#[65, 100, 100]⟩] w fun e w' => Formed (some (2, 2, [thenRa])) w w' e ∧ w.grownBy w' none := by
  have e1 : isOne ⟨#[65, 100, 100]⟩ = false := by simp only [isOne, bytes_toList]; rfl
  have O1 := hide (rone_any ⟨#[65, 100, 100]⟩ w)
  rw [e1] at O1
  have e2 : isTwo ⟨#[65, 100, 100]⟩ = true := by simp only [isTwo, twoL, eqS, List.any_cons, List.any_nil, bytes_toList]; rfl
  have O2 := hide (fun wx => rtwo_any ⟨#[65, 100, 100]⟩ wx)
  rw [e2] at O2
  clear e2
  clear e1
  go_enter Tryd.func73, Tryd.ntmps73
  go_wp2_with fail
  refine O1.out.mono ?_
  rintro e v0 ⟨rfl, h0⟩
  go_wp2_with fail
  refine (O2.out v0).mono ?_
  rintro e v1 ⟨rfl, h1'⟩
  have h1 := grown_trans h0 h1'
  go_wp2
  refine bodyPost_ret (results_tmp4 rfl _ _ _) rfl ?_
  exact ⟨⟨⟨none, 0, 0⟩, [], rfl, rfl, OwnsL.nil ..⟩, h1⟩

set_option maxRecDepth 100000 in
set_option maxHeartbeats 1600000 in
theorem rof_Sub (w : World) :
    Calls Tryd.prog 73 #[.string ⟨#[83, 117, 98]⟩] w fun e w' => Formed (some (2, 2, [thenRa])) w w' e ∧ w.grownBy w' none := by
  have e1 : isOne ⟨#[83, 117, 98]⟩ = false := by simp only [isOne, bytes_toList]; rfl
  have O1 := hide (rone_any ⟨#[83, 117, 98]⟩ w)
  rw [e1] at O1
  have e2 : isTwo ⟨#[83, 117, 98]⟩ = true := by simp only [isTwo, twoL, eqS, List.any_cons, List.any_nil, bytes_toList]; rfl
  have O2 := hide (fun wx => rtwo_any ⟨#[83, 117, 98]⟩ wx)
  rw [e2] at O2
  clear e2
  clear e1
  go_enter Tryd.func73, Tryd.ntmps73
  go_wp2_with fail
  refine O1.out.mono ?_
  rintro e v0 ⟨rfl, h0⟩
  go_wp2_with fail
  refine (O2.out v0).mono ?_
  rintro e v1 ⟨rfl, h1'⟩
  have h1 := grown_trans h0 h1'
  go_wp2
  refine bodyPost_ret (results_tmp4 rfl _ _ _) rfl ?_
  exact ⟨⟨⟨none, 0, 0⟩, [], rfl, rfl, OwnsL.nil ..⟩, h1⟩

set_option maxRecDepth 100000 in
set_option maxHeartbeats 1600000 in
theorem rof_Mul (w : World) :
    Calls Tryd.prog 73 #[.string ⟨#[77, 117, 108]⟩] w fun e w' => Formed (some (2, 2, [thenRa])) w w' e ∧ w.grownBy w' none := by
  have e1 : isOne ⟨#[77, 117, 108]⟩ = false := by simp only [isOne, bytes_toList]; rfl
  have O1 := hide (rone_any ⟨#[77, 117, 108]⟩ w)
  rw [e1] at O1
  have e2 : isTwo ⟨#[77, 117, 108]⟩ = true := by simp only [isTwo, twoL, eqS, List.any_cons, List.any_nil, bytes_toList]; rfl
  have O2 := hide (fun wx => rtwo_any ⟨#[77, 117, 108]⟩ wx)
  rw [e2] at O2
  clear e2
  clear e1
  go_enter Tryd.func73, Tryd.ntmps73
  go_wp2_with fail
  refine O1.out.mono ?_
  rintro e v0 ⟨rfl, h0⟩
  go_wp2_with fail
  refine (O2.out v0).mono ?_
  rintro e v1 ⟨rfl, h1'⟩
  have h1 := grown_trans h0 h1'
  go_wp2
  refine bodyPost_ret (results_tmp4 rfl _ _ _) rfl ?_
  exact ⟨⟨⟨none, 0, 0⟩, [], rfl, rfl, OwnsL.nil ..⟩, h1⟩

set_option maxRecDepth 100000 in
set_option maxHeartbeats 1600000 in
theorem rof_Div (w : World) :
    Calls Tryd.prog 73 #[.string ⟨#[68, 105, 118]⟩] w fun e w' => Formed (some (2, 2, [thenRa])) w w' e ∧ w.grownBy w' none := by
  have e1 : isOne ⟨#[68, 105, 118]⟩ = false := by simp only [isOne, bytes_toList]; rfl
  have O1 := hide (rone_any ⟨#[68, 105, 118]⟩ w)
  rw [e1] at O1
  have e2 : isTwo ⟨#[68, 105, 118]⟩ = true := by simp only [isTwo, twoL, eqS, List.any_cons, List.any_nil, bytes_toList]; rfl
  have O2 := hide (fun wx => rtwo_any ⟨#[68, 105, 118]⟩ wx)
  rw [e2] at O2
  clear e2
  clear e1
  go_enter Tryd.func73, Tryd.ntmps73
  go_wp2_with fail
  refine O1.out.mono ?_
  rintro e v0 ⟨rfl, h0⟩
  go_wp2_with fail
  refine (O2.out v0).mono ?_
  rintro e v1 ⟨rfl, h1'⟩
  have h1 := grown_trans h0 h1'
  go_wp2
  refine bodyPost_ret (results_tmp4 rfl _ _ _) rfl ?_
  exact ⟨⟨⟨none, 0, 0⟩, [], rfl, rfl, OwnsL.nil ..⟩, h1⟩

set_option maxRecDepth 100000 in
set_option maxHeartbeats 1600000 in
theorem rof_Max (w : World) :
    Calls Tryd.prog 73 #[.string ⟨#[77, 97, 120]⟩] w fun e w' => Formed (some (2, 2, [thenRa])) w w' e ∧ w.grownBy w' none := by
  have e1 : isOne ⟨#[77, 97, 120]⟩ = false := by simp only [isOne, bytes_toList]; rfl
  have O1 := hide (rone_any ⟨#[77, 97, 120]⟩ w)
  rw [e1] at O1
  have e2 : isTwo ⟨#[77, 97, 120]⟩ = true := by simp only [isTwo, twoL, eqS, List.any_cons, List.any_nil, bytes_toList]; rfl
  have O2 := hide (fun wx => rtwo_any ⟨#[77, 97, 120]⟩ wx)
  rw [e2] at O2
  clear e2
  clear e1
  go_enter Tryd.func73, Tryd.ntmps73
  go_wp2_with fail
  refine O1.out.mono ?_
  rintro e v0 ⟨rfl, h0⟩
  go_wp2_with fail
  refine (O2.out v0).mono ?_
  rintro e v1 ⟨rfl, h1'⟩
  have h1 := grown_trans h0 h1'
  go_wp2
  refine bodyPost_ret (results_tmp4 rfl _ _ _) rfl ?_
  exact ⟨⟨⟨none, 0, 0⟩, [], rfl, rfl, OwnsL.nil ..⟩, h1⟩

set_option maxRecDepth 100000 in
set_option maxHeartbeats 1600000 in
theorem rof_Min (w : World) :
    Calls Tryd.prog 73 #[.string ⟨#[77, 105, 110]⟩] w fun e w' => Formed (some (2, 2, [thenRa])) w w' e ∧ w.grownBy w' none := by
  have e1 : isOne ⟨#[77, 105, 110]⟩ = false := by simp only [isOne, bytes_toList]; rfl
  have O1 := hide (rone_any ⟨#[77, 105, 110]⟩ w)
  rw [e1] at O1
  have e2 : isTwo ⟨#[77, 105, 110]⟩ = true := by simp only [isTwo, twoL, eqS, List.any_cons, List.any_nil, bytes_toList]; rfl
  have O2 := hide (fun wx => rtwo_any ⟨#[77, 105, 110]⟩ wx)
  rw [e2] at O2
  clear e2
  clear e1
  go_enter Tryd.func73, Tryd.ntmps73
  go_wp2_with fail
  refine O1.out.mono ?_
  rintro e v0 ⟨rfl, h0⟩
  go_wp2_with fail
  refine (O2.out v0).mono ?_
  rintro e v1 ⟨rfl, h1'⟩
  have h1 := grown_trans h0 h1'
  go_wp2
  refine bodyPost_ret (results_tmp4 rfl _ _ _) rfl ?_
  exact ⟨⟨⟨none, 0, 0⟩, [], rfl, rfl, OwnsL.nil ..⟩, h1⟩

set_option maxRecDepth 100000 in
set_option maxHeartbeats 1600000 in
theorem rof_And (w : World) :
    Calls Tryd.prog 73 #[.string ⟨#[65, 110, 100]⟩] w fun e w' => Formed (some (2, 2, [thenRa])) w w' e ∧ w.grownBy w' none := by
  have e1 : isOne ⟨#[65, 110, 100]⟩ = false := by simp only [isOne, bytes_toList]; rfl
  have O1 := hide (rone_any ⟨#[65, 110, 100]⟩ w)
  rw [e1] at O1
  have e2 : isTwo ⟨#[65, 110, 100]⟩ = true := by simp only [isTwo, twoL, eqS, List.any_cons, List.any_nil, bytes_toList]; rfl
  have O2 := hide (fun wx => rtwo_any ⟨#[65, 110, 100]⟩ wx)
  rw [e2] at O2
  clear e2
  clear e1
  go_enter Tryd.func73, Tryd.ntmps73
  go_wp2_with fail
  refine O1.out.mono ?_
  rintro e v0 ⟨rfl, h0⟩
  go_wp2_with fail
  refine (O2.out v0).mono ?_
  rintro e v1 ⟨rfl, h1'⟩
  have h1 := grown_trans h0 h1'
  go_wp2
  refine bodyPost_ret (results_tmp4 rfl _ _ _) rfl ?_
  exact ⟨⟨⟨none, 0, 0⟩, [], rfl, rfl, OwnsL.nil ..⟩, h1⟩

set_option maxRecDepth 100000 in
set_option maxHeartbeats 1600000 in
theorem rof_Or (w : World) :
    Calls Tryd.prog 73 #[.string ⟨#[79, 114]⟩] w fun e w' => Formed (some (2, 2, [thenRa])) w w' e ∧ w.grownBy w' none := by
  have e1 : isOne ⟨#[79, 114]⟩ = false := by simp only [isOne, bytes_toList]; rfl
  have O1 := hide (rone_any ⟨#[79, 114]⟩ w)
  rw [e1] at O1
  have e2 : isTwo ⟨#[79, 114]⟩ = true := by simp only [isTwo, twoL, eqS, List.any_cons, List.any_nil, bytes_toList]; rfl
  have O2 := hide (fun wx => rtwo_any ⟨#[79, 114]⟩ wx)
  rw [e2] at O2
  clear e2
  clear e1
  go_enter Tryd.func73, Tryd.ntmps73
  go_wp2_with fail
  refine O1.out.mono ?_
  rintro e v0 ⟨rfl, h0⟩
  go_wp2_with fail
  refine (O2.out v0).mono ?_
  rintro e v1 ⟨rfl, h1'⟩
  have h1 := grown_trans h0 h1'
  go_wp2
  refine bodyPost_ret (results_tmp4 rfl _ _ _) rfl ?_
  exact ⟨⟨⟨none, 0, 0⟩, [], rfl, rfl, OwnsL.nil ..⟩, h1⟩

set_option maxRecDepth 100000 in
set_option maxHeartbeats 1600000 in
theorem rof_Xor (w : World) :
    Calls Tryd.prog 73 #[.string ⟨#[88, 111, 114]⟩] w fun e w' => Formed (some (2, 2, [thenRa])) w w' e ∧ w.grownBy w' none := by
  have e1 : isOne ⟨#[88, 111, 114]⟩ = false := by simp only [isOne, bytes_toList]; rfl
  have O1 := hide (rone_any ⟨#[88, 111, 114]⟩ w)
  rw [e1] at O1
  have e2 : isTwo ⟨#[88, 111, 114]⟩ = true := by simp only [isTwo, twoL, eqS, List.any_cons, List.any_nil, bytes_toList]; rfl
  have O2 := hide (fun wx => rtwo_any ⟨#[88, 111, 114]⟩ wx)
  rw [e2] at O2
  clear e2
  clear e1
  go_enter Tryd.func73, Tryd.ntmps73
  go_wp2_with fail
  refine O1.out.mono ?_
  rintro e v0 ⟨rfl, h0⟩
  go_wp2_with fail
  refine (O2.out v0).mono ?_
  rintro e v1 ⟨rfl, h1'⟩
  have h1 := grown_trans h0 h1'
  go_wp2
  refine bodyPost_ret (results_tmp4 rfl _ _ _) rfl ?_
  exact ⟨⟨⟨none, 0, 0⟩, [], rfl, rfl, OwnsL.nil ..⟩, h1⟩

set_option maxRecDepth 100000 in
set_option maxHeartbeats 1600000 in
theorem rof_Equal (w : World) :
    Calls Tryd.prog 73 #[.string ⟨#[69, 113, 117, 97, 108]⟩] w fun e w' => Formed (some (2, 2, [thenRa])) w w' e ∧ w.grownBy w' none := by
  have e1 : isOne ⟨#[69, 113, 117, 97, 108]⟩ = false := by simp only [isOne, bytes_toList]; rfl
  have O1 := hide (rone_any ⟨#[69, 113, 117, 97, 108]⟩ w)
  rw [e1] at O1
  have e2 : isTwo ⟨#[69, 113, 117, 97, 108]⟩ = true := by simp only [isTwo, twoL, eqS, List.any_cons, List.any_nil, bytes_toList]; rfl
  have O2 := hide (fun wx => rtwo_any ⟨#[69, 113, 117, 97, 108]⟩ wx)
  rw [e2] at O2
  clear e2
  clear e1
  go_enter Tryd.func73, Tryd.ntmps73
  go_wp2_with fail
  refine O1.out.mono ?_
  rintro e v0 ⟨rfl, h0⟩
  go_wp2_with fail
  refine (O2.out v0).mono ?_
  rintro e v1 ⟨rfl, h1'⟩
  have h1 := grown_trans h0 h1'
  go_wp2
  refine bodyPost_ret (results_tmp4 rfl _ _ _) rfl ?_
  exact ⟨⟨⟨none, 0, 0⟩, [], rfl, rfl, OwnsL.nil ..⟩, h1⟩

set_option maxRecDepth 100000 in
set_option maxHeartbeats 1600000 in
theorem rof_Less (w : World) :
    Calls Tryd.prog 73 #[.string ⟨#[76, 101, 115, 115]⟩] w fun e w' => Formed (some (2, 2, [thenRa])) w w' e ∧ w.grownBy w' none := by
  have e1 : isOne ⟨#[76, 101, 115, 115]⟩ = false := by simp only [isOne, bytes_toList]; rfl
  have O1 := hide (rone_any ⟨#[76, 101, 115, 115]⟩ w)
  rw [e1] at O1
  have e2 : isTwo ⟨#[76, 101, 115, 115]⟩ = true := by simp only [isTwo, twoL, eqS, List.any_cons, List.any_nil, bytes_toList]; rfl
  have O2 := hide (fun wx => rtwo_any ⟨#[76, 101, 115, 115]⟩ wx)
  rw [e2] at O2
  clear e2
  clear e1
  go_enter Tryd.func73, Tryd.ntmps73
  go_wp2_with fail
  refine O1.out.mono ?_
  rintro e v0 ⟨rfl, h0⟩
  go_wp2_with fail
  refine (O2.out v0).mono ?_
  rintro e v1 ⟨rfl, h1'⟩
  have h1 := grown_trans h0 h1'
  go_wp2
  refine bodyPost_ret (results_tmp4 rfl _ _ _) rfl ?_
  exact ⟨⟨⟨none, 0, 0⟩, [], rfl, rfl, OwnsL.nil ..⟩, h1⟩

set_option maxRecDepth 100000 in
set_option maxHeartbeats 1600000 in
theorem rof_Greater (w : World) :
    Calls Tryd.prog 73 #[.string ⟨#[71, 114, 101, 97, 116, 101, 114]⟩] w fun e w' => Formed (some (2, 2, [thenRa])) w w' e ∧ w.grownBy w' none := by
  have e1 : isOne ⟨#[71, 114, 101, 97, 116, 101, 114]⟩ = false := by simp only [isOne, bytes_toList]; rfl
  have O1 := hide (rone_any ⟨#[71, 114, 101, 97, 116, 101, 114]⟩ w)
  rw [e1] at O1
  have e2 : isTwo ⟨#[71, 114, 101, 97, 116, 101, 114]⟩ = true := by simp only [isTwo, twoL, eqS, List.any_cons, List.any_nil, bytes_toList]; rfl
  have O2 := hide (fun wx => rtwo_any ⟨#[71, 114, 101, 97, 116, 101, 114]⟩ wx)
  rw [e2] at O2
  clear e2
  clear e1
  go_enter Tryd.func73, Tryd.ntmps73
  go_wp2_with fail
  refine O1.out.mono ?_
  rintro e v0 ⟨rfl, h0⟩
  go_wp2_with fail
  refine (O2.out v0).mono ?_
  rintro e v1 ⟨rfl, h1'⟩
  have h1 := grown_trans h0 h1'
  go_wp2
  refine bodyPost_ret (results_tmp4 rfl _ _ _) rfl ?_
  exact ⟨⟨⟨none, 0, 0⟩, [], rfl, rfl, OwnsL.nil ..⟩, h1⟩

set_option maxRecDepth 100000 in
set_option maxHeartbeats 1600000 in
theorem rof_MatMul (w : World) :
    Calls Tryd.prog 73 #[.string ⟨#[77, 97, 116, 77, 117, 108]⟩] w fun e w' => Formed (some (2, 2, [thenRa])) w w' e ∧ w.grownBy w' none := by
  have e1 : isOne ⟨#[77, 97, 116, 77, 117, 108]⟩ = false := by simp only [isOne, bytes_toList]; rfl
  have O1 := hide (rone_any ⟨#[77, 97, 116, 77, 117, 108]⟩ w)
  rw [e1] at O1
  have e2 : isTwo ⟨#[77, 97, 116, 77, 117, 108]⟩ = false := by simp only [isTwo, twoL, eqS, List.any_cons, List.any_nil, bytes_toList]; rfl
  have O2 := hide (fun wx => rtwo_any ⟨#[77, 97, 116, 77, 117, 108]⟩ wx)
  rw [e2] at O2
  clear e2
  clear e1
  go_enter Tryd.func73, Tryd.ntmps73
  go_wp2_with fail
  refine O1.out.mono ?_
  rintro e v0 ⟨rfl, h0⟩
  go_wp2_with fail
  refine (O2.out v0).mono ?_
  rintro e v1 ⟨rfl, h1'⟩
  have h1 := grown_trans h0 h1'
  go_wp2
  refine bodyPost_ret (results_tmp4 rfl _ _ _) rfl ?_
  exact ⟨⟨⟨none, 0, 0⟩, [], rfl, rfl, OwnsL.nil ..⟩, h1⟩

set_option maxRecDepth 100000 in
set_option maxHeartbeats 1600000 in
theorem rof_Where (w : World) :
    Calls Tryd.prog 73 #[.string ⟨#[87, 104, 101, 114, 101]⟩] w fun e w' => Formed (some (3, 3, [thenRa])) w w' e ∧ w.grownBy w' none := by
  have e1 : isOne ⟨#[87, 104, 101, 114, 101]⟩ = false := by simp only [isOne, bytes_toList]; rfl
  have O1 := hide (rone_any ⟨#[87, 104, 101, 114, 101]⟩ w)
  rw [e1] at O1
  have e2 : isTwo ⟨#[87, 104, 101, 114, 101]⟩ = false := by simp only [isTwo, twoL, eqS, List.any_cons, List.any_nil, bytes_toList]; rfl
  have O2 := hide (fun wx => rtwo_any ⟨#[87, 104, 101, 114, 101]⟩ wx)
  rw [e2] at O2
  clear e2
  clear e1
  go_enter Tryd.func73, Tryd.ntmps73
  go_wp2_with fail
  refine O1.out.mono ?_
  rintro e v0 ⟨rfl, h0⟩
  go_wp2_with fail
  refine (O2.out v0).mono ?_
  rintro e v1 ⟨rfl, h1'⟩
  have h1 := grown_trans h0 h1'
  go_wp2
  refine bodyPost_ret (results_tmp4 rfl _ _ _) rfl ?_
  exact ⟨⟨⟨none, 0, 0⟩, [], rfl, rfl, OwnsL.nil ..⟩, h1⟩

set_option maxRecDepth 100000 in
set_option maxHeartbeats 1600000 in
theorem rof_Clip (w : World) :
    Calls Tryd.prog 73 #[.string ⟨#[67, 108, 105, 112]⟩] w fun e w' => Formed (some (1, 1, [⟨⟨#[109, 105, 110]⟩, 1, false⟩, ⟨⟨#[109, 97, 120]⟩, 1, false⟩, thenRa])) w w' e ∧ w.grownBy w' none := by
  have e1 : isOne ⟨#[67, 108, 105, 112]⟩ = false := by simp only [isOne, bytes_toList]; rfl
  have O1 := hide (rone_any ⟨#[67, 108, 105, 112]⟩ w)
  rw [e1] at O1
  have e2 : isTwo ⟨#[67, 108, 105, 112]⟩ = false := by simp only [isTwo, twoL, eqS, List.any_cons, List.any_nil, bytes_toList]; rfl
  have O2 := hide (fun wx => rtwo_any ⟨#[67, 108, 105, 112]⟩ wx)
  rw [e2] at O2
  clear e2
  clear e1
  go_enter Tryd.func73, Tryd.ntmps73
  go_wp2_with fail
  refine O1.out.mono ?_
  rintro e v0 ⟨rfl, h0⟩
  go_wp2_with fail
  refine (O2.out v0).mono ?_
  rintro e v1 ⟨rfl, h1'⟩
  have h1 := grown_trans h0 h1'
  go_wp2_with fail
  refine (ropt_any _ _ _).mono ?_
  rintro e v2 ⟨rfl, h2'⟩
  have h2 := grown_trans h1 h2'
  go_wp2_with fail
  refine (ropt_any _ _ _).mono ?_
  rintro e v3 ⟨rfl, h3'⟩
  have h3 := grown_trans h2 h3'
  have FL := hide (forms_lit v3 [⟨⟨#[109, 105, 110]⟩, 1, false⟩, ⟨⟨#[109, 97, 120]⟩, 1, false⟩] (by decide) (by decide))
  have G := hide (grown_trans h3 (grown_new v3 (.cells #[.string ⟨#[109, 105, 110]⟩, .int .i64 1, .bool false, .string ⟨#[109, 97, 120]⟩, .int .i64 1, .bool false] 133)))
  go_wp2
  refine bodyPost_ret (results_tmp4 rfl _ _ _) rfl ?_
  exact ⟨⟨⟨some ⟨v3.heap.size, 0, none⟩, 2, 2⟩, [⟨⟨#[109, 105, 110]⟩, 1, false⟩, ⟨⟨#[109, 97, 120]⟩, 1, false⟩], rfl, rfl, OwnsL.base_le FL.out h3.size⟩, G.out⟩

set_option maxRecDepth 100000 in
set_option maxHeartbeats 1600000 in
theorem rof_Cast (w : World) :
    Calls Tryd.prog 73 #[.string ⟨#[67, 97, 115, 116]⟩] w fun e w' => Formed (some (1, 1, [⟨⟨#[116, 111]⟩, 2, true⟩, thenRa])) w w' e ∧ w.grownBy w' none := by
  have e1 : isOne ⟨#[67, 97, 115, 116]⟩ = false := by simp only [isOne, bytes_toList]; rfl
  have O1 := hide (rone_any ⟨#[67, 97, 115, 116]⟩ w)
  rw [e1] at O1
  have e2 : isTwo ⟨#[67, 97, 115, 116]⟩ = false := by simp only [isTwo, twoL, eqS, List.any_cons, List.any_nil, bytes_toList]; rfl
  have O2 := hide (fun wx => rtwo_any ⟨#[67, 97, 115, 116]⟩ wx)
  rw [e2] at O2
  clear e2
  clear e1
  go_enter Tryd.func73, Tryd.ntmps73
  go_wp2_with fail
  refine O1.out.mono ?_
  rintro e v0 ⟨rfl, h0⟩
  go_wp2_with fail
  refine (O2.out v0).mono ?_
  rintro e v1 ⟨rfl, h1'⟩
  have h1 := grown_trans h0 h1'
  go_wp2_with fail
  refine (rmust_any _ _ _).mono ?_
  rintro e v2 ⟨rfl, h2'⟩
  have h2 := grown_trans h1 h2'
  have FL := hide (forms_lit v2 [⟨⟨#[116, 111]⟩, 2, true⟩] (by decide) (by decide))
  have G := hide (grown_trans h2 (grown_new v2 (.cells #[.string ⟨#[116, 111]⟩, .int .i64 2, .bool true] 133)))
  go_wp2
  refine bodyPost_ret (results_tmp4 rfl _ _ _) rfl ?_
  exact ⟨⟨⟨some ⟨v2.heap.size, 0, none⟩, 1, 1⟩, [⟨⟨#[116, 111]⟩, 2, true⟩], rfl, rfl, OwnsL.base_le FL.out h2.size⟩, G.out⟩

end Go.Proofs.YtmdpeckeliplkaaDoor

/- The document's of, operator by operator (mkROf.py). -/
namespace Go.Proofs.YtmdpeckeliplkaaDoor
open Go.RowKit

set_option maxRecDepth 100000 in
set_option maxHeartbeats 1600000 in
theorem rof_ReduceSum (w : World) :
    Calls Tryd.prog 73 #[.string ⟨#[82, 101, 100, 117, 99, 101, 83, 117, 109]⟩] w fun e w' => Formed (some (1, 1, [⟨⟨#[97, 120, 101, 115]⟩, 7, false⟩, ⟨⟨#[107, 101, 101, 112, 100, 105, 109, 115]⟩, 2, false⟩, thenRa])) w w' e ∧ w.grownBy w' none := by
  have e1 : isOne ⟨#[82, 101, 100, 117, 99, 101, 83, 117, 109]⟩ = false := by simp only [isOne, bytes_toList]; rfl
  have O1 := hide (rone_any ⟨#[82, 101, 100, 117, 99, 101, 83, 117, 109]⟩ w)
  rw [e1] at O1
  have e2 : isTwo ⟨#[82, 101, 100, 117, 99, 101, 83, 117, 109]⟩ = false := by simp only [isTwo, twoL, eqS, List.any_cons, List.any_nil, bytes_toList]; rfl
  have O2 := hide (fun wx => rtwo_any ⟨#[82, 101, 100, 117, 99, 101, 83, 117, 109]⟩ wx)
  rw [e2] at O2
  clear e2
  clear e1
  go_enter Tryd.func73, Tryd.ntmps73
  go_wp2_with fail
  refine O1.out.mono ?_
  rintro e v0 ⟨rfl, h0⟩
  go_wp2_with fail
  refine (O2.out v0).mono ?_
  rintro e v1 ⟨rfl, h1'⟩
  have h1 := grown_trans h0 h1'
  go_wp2_with fail
  refine (ropt_any _ _ _).mono ?_
  rintro e v2 ⟨rfl, h2'⟩
  have h2 := grown_trans h1 h2'
  go_wp2_with fail
  refine (ropt_any _ _ _).mono ?_
  rintro e v3 ⟨rfl, h3'⟩
  have h3 := grown_trans h2 h3'
  have FL := hide (forms_lit v3 [⟨⟨#[97, 120, 101, 115]⟩, 7, false⟩, ⟨⟨#[107, 101, 101, 112, 100, 105, 109, 115]⟩, 2, false⟩] (by decide) (by decide))
  have G := hide (grown_trans h3 (grown_new v3 (.cells #[.string ⟨#[97, 120, 101, 115]⟩, .int .i64 7, .bool false, .string ⟨#[107, 101, 101, 112, 100, 105, 109, 115]⟩, .int .i64 2, .bool false] 133)))
  go_wp2
  refine bodyPost_ret (results_tmp4 rfl _ _ _) rfl ?_
  exact ⟨⟨⟨some ⟨v3.heap.size, 0, none⟩, 2, 2⟩, [⟨⟨#[97, 120, 101, 115]⟩, 7, false⟩, ⟨⟨#[107, 101, 101, 112, 100, 105, 109, 115]⟩, 2, false⟩], rfl, rfl, OwnsL.base_le FL.out h3.size⟩, G.out⟩

set_option maxRecDepth 100000 in
set_option maxHeartbeats 1600000 in
theorem rof_ReduceMax (w : World) :
    Calls Tryd.prog 73 #[.string ⟨#[82, 101, 100, 117, 99, 101, 77, 97, 120]⟩] w fun e w' => Formed (some (1, 1, [⟨⟨#[97, 120, 101, 115]⟩, 7, false⟩, ⟨⟨#[107, 101, 101, 112, 100, 105, 109, 115]⟩, 2, false⟩, thenRa])) w w' e ∧ w.grownBy w' none := by
  have e1 : isOne ⟨#[82, 101, 100, 117, 99, 101, 77, 97, 120]⟩ = false := by simp only [isOne, bytes_toList]; rfl
  have O1 := hide (rone_any ⟨#[82, 101, 100, 117, 99, 101, 77, 97, 120]⟩ w)
  rw [e1] at O1
  have e2 : isTwo ⟨#[82, 101, 100, 117, 99, 101, 77, 97, 120]⟩ = false := by simp only [isTwo, twoL, eqS, List.any_cons, List.any_nil, bytes_toList]; rfl
  have O2 := hide (fun wx => rtwo_any ⟨#[82, 101, 100, 117, 99, 101, 77, 97, 120]⟩ wx)
  rw [e2] at O2
  clear e2
  clear e1
  go_enter Tryd.func73, Tryd.ntmps73
  go_wp2_with fail
  refine O1.out.mono ?_
  rintro e v0 ⟨rfl, h0⟩
  go_wp2_with fail
  refine (O2.out v0).mono ?_
  rintro e v1 ⟨rfl, h1'⟩
  have h1 := grown_trans h0 h1'
  go_wp2_with fail
  refine (ropt_any _ _ _).mono ?_
  rintro e v2 ⟨rfl, h2'⟩
  have h2 := grown_trans h1 h2'
  go_wp2_with fail
  refine (ropt_any _ _ _).mono ?_
  rintro e v3 ⟨rfl, h3'⟩
  have h3 := grown_trans h2 h3'
  have FL := hide (forms_lit v3 [⟨⟨#[97, 120, 101, 115]⟩, 7, false⟩, ⟨⟨#[107, 101, 101, 112, 100, 105, 109, 115]⟩, 2, false⟩] (by decide) (by decide))
  have G := hide (grown_trans h3 (grown_new v3 (.cells #[.string ⟨#[97, 120, 101, 115]⟩, .int .i64 7, .bool false, .string ⟨#[107, 101, 101, 112, 100, 105, 109, 115]⟩, .int .i64 2, .bool false] 133)))
  go_wp2
  refine bodyPost_ret (results_tmp4 rfl _ _ _) rfl ?_
  exact ⟨⟨⟨some ⟨v3.heap.size, 0, none⟩, 2, 2⟩, [⟨⟨#[97, 120, 101, 115]⟩, 7, false⟩, ⟨⟨#[107, 101, 101, 112, 100, 105, 109, 115]⟩, 2, false⟩], rfl, rfl, OwnsL.base_le FL.out h3.size⟩, G.out⟩

set_option maxRecDepth 100000 in
set_option maxHeartbeats 1600000 in
theorem rof_ReduceMean (w : World) :
    Calls Tryd.prog 73 #[.string ⟨#[82, 101, 100, 117, 99, 101, 77, 101, 97, 110]⟩] w fun e w' => Formed (some (1, 1, [⟨⟨#[97, 120, 101, 115]⟩, 7, false⟩, ⟨⟨#[107, 101, 101, 112, 100, 105, 109, 115]⟩, 2, false⟩, thenRa])) w w' e ∧ w.grownBy w' none := by
  have e1 : isOne ⟨#[82, 101, 100, 117, 99, 101, 77, 101, 97, 110]⟩ = false := by simp only [isOne, bytes_toList]; rfl
  have O1 := hide (rone_any ⟨#[82, 101, 100, 117, 99, 101, 77, 101, 97, 110]⟩ w)
  rw [e1] at O1
  have e2 : isTwo ⟨#[82, 101, 100, 117, 99, 101, 77, 101, 97, 110]⟩ = false := by simp only [isTwo, twoL, eqS, List.any_cons, List.any_nil, bytes_toList]; rfl
  have O2 := hide (fun wx => rtwo_any ⟨#[82, 101, 100, 117, 99, 101, 77, 101, 97, 110]⟩ wx)
  rw [e2] at O2
  clear e2
  clear e1
  go_enter Tryd.func73, Tryd.ntmps73
  go_wp2_with fail
  refine O1.out.mono ?_
  rintro e v0 ⟨rfl, h0⟩
  go_wp2_with fail
  refine (O2.out v0).mono ?_
  rintro e v1 ⟨rfl, h1'⟩
  have h1 := grown_trans h0 h1'
  go_wp2_with fail
  refine (ropt_any _ _ _).mono ?_
  rintro e v2 ⟨rfl, h2'⟩
  have h2 := grown_trans h1 h2'
  go_wp2_with fail
  refine (ropt_any _ _ _).mono ?_
  rintro e v3 ⟨rfl, h3'⟩
  have h3 := grown_trans h2 h3'
  have FL := hide (forms_lit v3 [⟨⟨#[97, 120, 101, 115]⟩, 7, false⟩, ⟨⟨#[107, 101, 101, 112, 100, 105, 109, 115]⟩, 2, false⟩] (by decide) (by decide))
  have G := hide (grown_trans h3 (grown_new v3 (.cells #[.string ⟨#[97, 120, 101, 115]⟩, .int .i64 7, .bool false, .string ⟨#[107, 101, 101, 112, 100, 105, 109, 115]⟩, .int .i64 2, .bool false] 133)))
  go_wp2
  refine bodyPost_ret (results_tmp4 rfl _ _ _) rfl ?_
  exact ⟨⟨⟨some ⟨v3.heap.size, 0, none⟩, 2, 2⟩, [⟨⟨#[97, 120, 101, 115]⟩, 7, false⟩, ⟨⟨#[107, 101, 101, 112, 100, 105, 109, 115]⟩, 2, false⟩], rfl, rfl, OwnsL.base_le FL.out h3.size⟩, G.out⟩

set_option maxRecDepth 100000 in
set_option maxHeartbeats 1600000 in
theorem rof_ArgMax (w : World) :
    Calls Tryd.prog 73 #[.string ⟨#[65, 114, 103, 77, 97, 120]⟩] w fun e w' => Formed (some (1, 1, [⟨⟨#[97, 120, 105, 115]⟩, 2, false⟩, ⟨⟨#[107, 101, 101, 112, 100, 105, 109, 115]⟩, 2, false⟩, thenRa])) w w' e ∧ w.grownBy w' none := by
  have e1 : isOne ⟨#[65, 114, 103, 77, 97, 120]⟩ = false := by simp only [isOne, bytes_toList]; rfl
  have O1 := hide (rone_any ⟨#[65, 114, 103, 77, 97, 120]⟩ w)
  rw [e1] at O1
  have e2 : isTwo ⟨#[65, 114, 103, 77, 97, 120]⟩ = false := by simp only [isTwo, twoL, eqS, List.any_cons, List.any_nil, bytes_toList]; rfl
  have O2 := hide (fun wx => rtwo_any ⟨#[65, 114, 103, 77, 97, 120]⟩ wx)
  rw [e2] at O2
  clear e2
  clear e1
  go_enter Tryd.func73, Tryd.ntmps73
  go_wp2_with fail
  refine O1.out.mono ?_
  rintro e v0 ⟨rfl, h0⟩
  go_wp2_with fail
  refine (O2.out v0).mono ?_
  rintro e v1 ⟨rfl, h1'⟩
  have h1 := grown_trans h0 h1'
  go_wp2_with fail
  refine (ropt_any _ _ _).mono ?_
  rintro e v2 ⟨rfl, h2'⟩
  have h2 := grown_trans h1 h2'
  go_wp2_with fail
  refine (ropt_any _ _ _).mono ?_
  rintro e v3 ⟨rfl, h3'⟩
  have h3 := grown_trans h2 h3'
  have FL := hide (forms_lit v3 [⟨⟨#[97, 120, 105, 115]⟩, 2, false⟩, ⟨⟨#[107, 101, 101, 112, 100, 105, 109, 115]⟩, 2, false⟩] (by decide) (by decide))
  have G := hide (grown_trans h3 (grown_new v3 (.cells #[.string ⟨#[97, 120, 105, 115]⟩, .int .i64 2, .bool false, .string ⟨#[107, 101, 101, 112, 100, 105, 109, 115]⟩, .int .i64 2, .bool false] 133)))
  go_wp2
  refine bodyPost_ret (results_tmp4 rfl _ _ _) rfl ?_
  exact ⟨⟨⟨some ⟨v3.heap.size, 0, none⟩, 2, 2⟩, [⟨⟨#[97, 120, 105, 115]⟩, 2, false⟩, ⟨⟨#[107, 101, 101, 112, 100, 105, 109, 115]⟩, 2, false⟩], rfl, rfl, OwnsL.base_le FL.out h3.size⟩, G.out⟩

set_option maxRecDepth 100000 in
set_option maxHeartbeats 1600000 in
theorem rof_Reshape (w : World) :
    Calls Tryd.prog 73 #[.string ⟨#[82, 101, 115, 104, 97, 112, 101]⟩] w fun e w' => Formed (some (1, 1, [⟨⟨#[115, 104, 97, 112, 101]⟩, 7, true⟩, thenRa])) w w' e ∧ w.grownBy w' none := by
  have e1 : isOne ⟨#[82, 101, 115, 104, 97, 112, 101]⟩ = false := by simp only [isOne, bytes_toList]; rfl
  have O1 := hide (rone_any ⟨#[82, 101, 115, 104, 97, 112, 101]⟩ w)
  rw [e1] at O1
  have e2 : isTwo ⟨#[82, 101, 115, 104, 97, 112, 101]⟩ = false := by simp only [isTwo, twoL, eqS, List.any_cons, List.any_nil, bytes_toList]; rfl
  have O2 := hide (fun wx => rtwo_any ⟨#[82, 101, 115, 104, 97, 112, 101]⟩ wx)
  rw [e2] at O2
  clear e2
  clear e1
  go_enter Tryd.func73, Tryd.ntmps73
  go_wp2_with fail
  refine O1.out.mono ?_
  rintro e v0 ⟨rfl, h0⟩
  go_wp2_with fail
  refine (O2.out v0).mono ?_
  rintro e v1 ⟨rfl, h1'⟩
  have h1 := grown_trans h0 h1'
  go_wp2_with fail
  refine (rmust_any _ _ _).mono ?_
  rintro e v2 ⟨rfl, h2'⟩
  have h2 := grown_trans h1 h2'
  have FL := hide (forms_lit v2 [⟨⟨#[115, 104, 97, 112, 101]⟩, 7, true⟩] (by decide) (by decide))
  have G := hide (grown_trans h2 (grown_new v2 (.cells #[.string ⟨#[115, 104, 97, 112, 101]⟩, .int .i64 7, .bool true] 133)))
  go_wp2
  refine bodyPost_ret (results_tmp4 rfl _ _ _) rfl ?_
  exact ⟨⟨⟨some ⟨v2.heap.size, 0, none⟩, 1, 1⟩, [⟨⟨#[115, 104, 97, 112, 101]⟩, 7, true⟩], rfl, rfl, OwnsL.base_le FL.out h2.size⟩, G.out⟩

set_option maxRecDepth 100000 in
set_option maxHeartbeats 1600000 in
theorem rof_Expand (w : World) :
    Calls Tryd.prog 73 #[.string ⟨#[69, 120, 112, 97, 110, 100]⟩] w fun e w' => Formed (some (1, 1, [⟨⟨#[115, 104, 97, 112, 101]⟩, 7, true⟩, thenRa])) w w' e ∧ w.grownBy w' none := by
  have e1 : isOne ⟨#[69, 120, 112, 97, 110, 100]⟩ = false := by simp only [isOne, bytes_toList]; rfl
  have O1 := hide (rone_any ⟨#[69, 120, 112, 97, 110, 100]⟩ w)
  rw [e1] at O1
  have e2 : isTwo ⟨#[69, 120, 112, 97, 110, 100]⟩ = false := by simp only [isTwo, twoL, eqS, List.any_cons, List.any_nil, bytes_toList]; rfl
  have O2 := hide (fun wx => rtwo_any ⟨#[69, 120, 112, 97, 110, 100]⟩ wx)
  rw [e2] at O2
  clear e2
  clear e1
  go_enter Tryd.func73, Tryd.ntmps73
  go_wp2_with fail
  refine O1.out.mono ?_
  rintro e v0 ⟨rfl, h0⟩
  go_wp2_with fail
  refine (O2.out v0).mono ?_
  rintro e v1 ⟨rfl, h1'⟩
  have h1 := grown_trans h0 h1'
  go_wp2_with fail
  refine (rmust_any _ _ _).mono ?_
  rintro e v2 ⟨rfl, h2'⟩
  have h2 := grown_trans h1 h2'
  have FL := hide (forms_lit v2 [⟨⟨#[115, 104, 97, 112, 101]⟩, 7, true⟩] (by decide) (by decide))
  have G := hide (grown_trans h2 (grown_new v2 (.cells #[.string ⟨#[115, 104, 97, 112, 101]⟩, .int .i64 7, .bool true] 133)))
  go_wp2
  refine bodyPost_ret (results_tmp4 rfl _ _ _) rfl ?_
  exact ⟨⟨⟨some ⟨v2.heap.size, 0, none⟩, 1, 1⟩, [⟨⟨#[115, 104, 97, 112, 101]⟩, 7, true⟩], rfl, rfl, OwnsL.base_le FL.out h2.size⟩, G.out⟩

set_option maxRecDepth 100000 in
set_option maxHeartbeats 1600000 in
theorem rof_Transpose (w : World) :
    Calls Tryd.prog 73 #[.string ⟨#[84, 114, 97, 110, 115, 112, 111, 115, 101]⟩] w fun e w' => Formed (some (1, 1, [⟨⟨#[112, 101, 114, 109]⟩, 7, false⟩, thenRa])) w w' e ∧ w.grownBy w' none := by
  have e1 : isOne ⟨#[84, 114, 97, 110, 115, 112, 111, 115, 101]⟩ = false := by simp only [isOne, bytes_toList]; rfl
  have O1 := hide (rone_any ⟨#[84, 114, 97, 110, 115, 112, 111, 115, 101]⟩ w)
  rw [e1] at O1
  have e2 : isTwo ⟨#[84, 114, 97, 110, 115, 112, 111, 115, 101]⟩ = false := by simp only [isTwo, twoL, eqS, List.any_cons, List.any_nil, bytes_toList]; rfl
  have O2 := hide (fun wx => rtwo_any ⟨#[84, 114, 97, 110, 115, 112, 111, 115, 101]⟩ wx)
  rw [e2] at O2
  clear e2
  clear e1
  go_enter Tryd.func73, Tryd.ntmps73
  go_wp2_with fail
  refine O1.out.mono ?_
  rintro e v0 ⟨rfl, h0⟩
  go_wp2_with fail
  refine (O2.out v0).mono ?_
  rintro e v1 ⟨rfl, h1'⟩
  have h1 := grown_trans h0 h1'
  go_wp2_with fail
  refine (ropt_any _ _ _).mono ?_
  rintro e v2 ⟨rfl, h2'⟩
  have h2 := grown_trans h1 h2'
  have FL := hide (forms_lit v2 [⟨⟨#[112, 101, 114, 109]⟩, 7, false⟩] (by decide) (by decide))
  have G := hide (grown_trans h2 (grown_new v2 (.cells #[.string ⟨#[112, 101, 114, 109]⟩, .int .i64 7, .bool false] 133)))
  go_wp2
  refine bodyPost_ret (results_tmp4 rfl _ _ _) rfl ?_
  exact ⟨⟨⟨some ⟨v2.heap.size, 0, none⟩, 1, 1⟩, [⟨⟨#[112, 101, 114, 109]⟩, 7, false⟩], rfl, rfl, OwnsL.base_le FL.out h2.size⟩, G.out⟩

set_option maxRecDepth 100000 in
set_option maxHeartbeats 1600000 in
theorem rof_Concat (w : World) :
    Calls Tryd.prog 73 #[.string ⟨#[67, 111, 110, 99, 97, 116]⟩] w fun e w' => Formed (some (1, 20, [⟨⟨#[97, 120, 105, 115]⟩, 2, true⟩, thenRa])) w w' e ∧ w.grownBy w' none := by
  have e1 : isOne ⟨#[67, 111, 110, 99, 97, 116]⟩ = false := by simp only [isOne, bytes_toList]; rfl
  have O1 := hide (rone_any ⟨#[67, 111, 110, 99, 97, 116]⟩ w)
  rw [e1] at O1
  have e2 : isTwo ⟨#[67, 111, 110, 99, 97, 116]⟩ = false := by simp only [isTwo, twoL, eqS, List.any_cons, List.any_nil, bytes_toList]; rfl
  have O2 := hide (fun wx => rtwo_any ⟨#[67, 111, 110, 99, 97, 116]⟩ wx)
  rw [e2] at O2
  clear e2
  clear e1
  go_enter Tryd.func73, Tryd.ntmps73
  go_wp2_with fail
  refine O1.out.mono ?_
  rintro e v0 ⟨rfl, h0⟩
  go_wp2_with fail
  refine (O2.out v0).mono ?_
  rintro e v1 ⟨rfl, h1'⟩
  have h1 := grown_trans h0 h1'
  go_wp2_with fail
  refine (rmust_any _ _ _).mono ?_
  rintro e v2 ⟨rfl, h2'⟩
  have h2 := grown_trans h1 h2'
  have FL := hide (forms_lit v2 [⟨⟨#[97, 120, 105, 115]⟩, 2, true⟩] (by decide) (by decide))
  have G := hide (grown_trans h2 (grown_new v2 (.cells #[.string ⟨#[97, 120, 105, 115]⟩, .int .i64 2, .bool true] 133)))
  go_wp2
  refine bodyPost_ret (results_tmp4 rfl _ _ _) rfl ?_
  exact ⟨⟨⟨some ⟨v2.heap.size, 0, none⟩, 1, 1⟩, [⟨⟨#[97, 120, 105, 115]⟩, 2, true⟩], rfl, rfl, OwnsL.base_le FL.out h2.size⟩, G.out⟩

set_option maxRecDepth 100000 in
set_option maxHeartbeats 1600000 in
theorem rof_Slice (w : World) :
    Calls Tryd.prog 73 #[.string ⟨#[83, 108, 105, 99, 101]⟩] w fun e w' => Formed (some (1, 1, [⟨⟨#[115, 116, 97, 114, 116, 115]⟩, 7, true⟩, ⟨⟨#[101, 110, 100, 115]⟩, 7, true⟩, ⟨⟨#[97, 120, 101, 115]⟩, 7, false⟩, thenRa])) w w' e ∧ w.grownBy w' none := by
  have e1 : isOne ⟨#[83, 108, 105, 99, 101]⟩ = false := by simp only [isOne, bytes_toList]; rfl
  have O1 := hide (rone_any ⟨#[83, 108, 105, 99, 101]⟩ w)
  rw [e1] at O1
  have e2 : isTwo ⟨#[83, 108, 105, 99, 101]⟩ = false := by simp only [isTwo, twoL, eqS, List.any_cons, List.any_nil, bytes_toList]; rfl
  have O2 := hide (fun wx => rtwo_any ⟨#[83, 108, 105, 99, 101]⟩ wx)
  rw [e2] at O2
  clear e2
  clear e1
  go_enter Tryd.func73, Tryd.ntmps73
  go_wp2_with fail
  refine O1.out.mono ?_
  rintro e v0 ⟨rfl, h0⟩
  go_wp2_with fail
  refine (O2.out v0).mono ?_
  rintro e v1 ⟨rfl, h1'⟩
  have h1 := grown_trans h0 h1'
  go_wp2_with fail
  refine (rmust_any _ _ _).mono ?_
  rintro e v2 ⟨rfl, h2'⟩
  have h2 := grown_trans h1 h2'
  go_wp2_with fail
  refine (rmust_any _ _ _).mono ?_
  rintro e v3 ⟨rfl, h3'⟩
  have h3 := grown_trans h2 h3'
  go_wp2_with fail
  refine (ropt_any _ _ _).mono ?_
  rintro e v4 ⟨rfl, h4'⟩
  have h4 := grown_trans h3 h4'
  have FL := hide (forms_lit v4 [⟨⟨#[115, 116, 97, 114, 116, 115]⟩, 7, true⟩, ⟨⟨#[101, 110, 100, 115]⟩, 7, true⟩, ⟨⟨#[97, 120, 101, 115]⟩, 7, false⟩] (by decide) (by decide))
  have G := hide (grown_trans h4 (grown_new v4 (.cells #[.string ⟨#[115, 116, 97, 114, 116, 115]⟩, .int .i64 7, .bool true, .string ⟨#[101, 110, 100, 115]⟩, .int .i64 7, .bool true, .string ⟨#[97, 120, 101, 115]⟩, .int .i64 7, .bool false] 133)))
  go_wp2
  refine bodyPost_ret (results_tmp4 rfl _ _ _) rfl ?_
  exact ⟨⟨⟨some ⟨v4.heap.size, 0, none⟩, 3, 3⟩, [⟨⟨#[115, 116, 97, 114, 116, 115]⟩, 7, true⟩, ⟨⟨#[101, 110, 100, 115]⟩, 7, true⟩, ⟨⟨#[97, 120, 101, 115]⟩, 7, false⟩], rfl, rfl, OwnsL.base_le FL.out h4.size⟩, G.out⟩

set_option maxRecDepth 100000 in
set_option maxHeartbeats 1600000 in
theorem rof_Gather (w : World) :
    Calls Tryd.prog 73 #[.string ⟨#[71, 97, 116, 104, 101, 114]⟩] w fun e w' => Formed (some (2, 2, [⟨⟨#[97, 120, 105, 115]⟩, 2, false⟩, thenRa])) w w' e ∧ w.grownBy w' none := by
  have e1 : isOne ⟨#[71, 97, 116, 104, 101, 114]⟩ = false := by simp only [isOne, bytes_toList]; rfl
  have O1 := hide (rone_any ⟨#[71, 97, 116, 104, 101, 114]⟩ w)
  rw [e1] at O1
  have e2 : isTwo ⟨#[71, 97, 116, 104, 101, 114]⟩ = false := by simp only [isTwo, twoL, eqS, List.any_cons, List.any_nil, bytes_toList]; rfl
  have O2 := hide (fun wx => rtwo_any ⟨#[71, 97, 116, 104, 101, 114]⟩ wx)
  rw [e2] at O2
  clear e2
  clear e1
  go_enter Tryd.func73, Tryd.ntmps73
  go_wp2_with fail
  refine O1.out.mono ?_
  rintro e v0 ⟨rfl, h0⟩
  go_wp2_with fail
  refine (O2.out v0).mono ?_
  rintro e v1 ⟨rfl, h1'⟩
  have h1 := grown_trans h0 h1'
  go_wp2_with fail
  refine (ropt_any _ _ _).mono ?_
  rintro e v2 ⟨rfl, h2'⟩
  have h2 := grown_trans h1 h2'
  have FL := hide (forms_lit v2 [⟨⟨#[97, 120, 105, 115]⟩, 2, false⟩] (by decide) (by decide))
  have G := hide (grown_trans h2 (grown_new v2 (.cells #[.string ⟨#[97, 120, 105, 115]⟩, .int .i64 2, .bool false] 133)))
  go_wp2
  refine bodyPost_ret (results_tmp4 rfl _ _ _) rfl ?_
  exact ⟨⟨⟨some ⟨v2.heap.size, 0, none⟩, 1, 1⟩, [⟨⟨#[97, 120, 105, 115]⟩, 2, false⟩], rfl, rfl, OwnsL.base_le FL.out h2.size⟩, G.out⟩

set_option maxRecDepth 100000 in
set_option maxHeartbeats 1600000 in
theorem rof_Pad (w : World) :
    Calls Tryd.prog 73 #[.string ⟨#[80, 97, 100]⟩] w fun e w' => Formed (some (1, 1, [⟨⟨#[112, 97, 100, 115]⟩, 7, true⟩, ⟨⟨#[118, 97, 108, 117, 101]⟩, 1, false⟩, thenRa])) w w' e ∧ w.grownBy w' none := by
  have e1 : isOne ⟨#[80, 97, 100]⟩ = false := by simp only [isOne, bytes_toList]; rfl
  have O1 := hide (rone_any ⟨#[80, 97, 100]⟩ w)
  rw [e1] at O1
  have e2 : isTwo ⟨#[80, 97, 100]⟩ = false := by simp only [isTwo, twoL, eqS, List.any_cons, List.any_nil, bytes_toList]; rfl
  have O2 := hide (fun wx => rtwo_any ⟨#[80, 97, 100]⟩ wx)
  rw [e2] at O2
  clear e2
  clear e1
  go_enter Tryd.func73, Tryd.ntmps73
  go_wp2_with fail
  refine O1.out.mono ?_
  rintro e v0 ⟨rfl, h0⟩
  go_wp2_with fail
  refine (O2.out v0).mono ?_
  rintro e v1 ⟨rfl, h1'⟩
  have h1 := grown_trans h0 h1'
  go_wp2_with fail
  refine (rmust_any _ _ _).mono ?_
  rintro e v2 ⟨rfl, h2'⟩
  have h2 := grown_trans h1 h2'
  go_wp2_with fail
  refine (ropt_any _ _ _).mono ?_
  rintro e v3 ⟨rfl, h3'⟩
  have h3 := grown_trans h2 h3'
  have FL := hide (forms_lit v3 [⟨⟨#[112, 97, 100, 115]⟩, 7, true⟩, ⟨⟨#[118, 97, 108, 117, 101]⟩, 1, false⟩] (by decide) (by decide))
  have G := hide (grown_trans h3 (grown_new v3 (.cells #[.string ⟨#[112, 97, 100, 115]⟩, .int .i64 7, .bool true, .string ⟨#[118, 97, 108, 117, 101]⟩, .int .i64 1, .bool false] 133)))
  go_wp2
  refine bodyPost_ret (results_tmp4 rfl _ _ _) rfl ?_
  exact ⟨⟨⟨some ⟨v3.heap.size, 0, none⟩, 2, 2⟩, [⟨⟨#[112, 97, 100, 115]⟩, 7, true⟩, ⟨⟨#[118, 97, 108, 117, 101]⟩, 1, false⟩], rfl, rfl, OwnsL.base_le FL.out h3.size⟩, G.out⟩

set_option maxRecDepth 100000 in
set_option maxHeartbeats 1600000 in
theorem rof_Squeeze (w : World) :
    Calls Tryd.prog 73 #[.string ⟨#[83, 113, 117, 101, 101, 122, 101]⟩] w fun e w' => Formed (some (1, 1, [⟨⟨#[97, 120, 101, 115]⟩, 7, true⟩, thenRa])) w w' e ∧ w.grownBy w' none := by
  have e1 : isOne ⟨#[83, 113, 117, 101, 101, 122, 101]⟩ = false := by simp only [isOne, bytes_toList]; rfl
  have O1 := hide (rone_any ⟨#[83, 113, 117, 101, 101, 122, 101]⟩ w)
  rw [e1] at O1
  have e2 : isTwo ⟨#[83, 113, 117, 101, 101, 122, 101]⟩ = false := by simp only [isTwo, twoL, eqS, List.any_cons, List.any_nil, bytes_toList]; rfl
  have O2 := hide (fun wx => rtwo_any ⟨#[83, 113, 117, 101, 101, 122, 101]⟩ wx)
  rw [e2] at O2
  clear e2
  clear e1
  go_enter Tryd.func73, Tryd.ntmps73
  go_wp2_with fail
  refine O1.out.mono ?_
  rintro e v0 ⟨rfl, h0⟩
  go_wp2_with fail
  refine (O2.out v0).mono ?_
  rintro e v1 ⟨rfl, h1'⟩
  have h1 := grown_trans h0 h1'
  go_wp2_with fail
  refine (rmust_any _ _ _).mono ?_
  rintro e v2 ⟨rfl, h2'⟩
  have h2 := grown_trans h1 h2'
  have FL := hide (forms_lit v2 [⟨⟨#[97, 120, 101, 115]⟩, 7, true⟩] (by decide) (by decide))
  have G := hide (grown_trans h2 (grown_new v2 (.cells #[.string ⟨#[97, 120, 101, 115]⟩, .int .i64 7, .bool true] 133)))
  go_wp2
  refine bodyPost_ret (results_tmp4 rfl _ _ _) rfl ?_
  exact ⟨⟨⟨some ⟨v2.heap.size, 0, none⟩, 1, 1⟩, [⟨⟨#[97, 120, 101, 115]⟩, 7, true⟩], rfl, rfl, OwnsL.base_le FL.out h2.size⟩, G.out⟩

set_option maxRecDepth 100000 in
set_option maxHeartbeats 1600000 in
theorem rof_Unsqueeze (w : World) :
    Calls Tryd.prog 73 #[.string ⟨#[85, 110, 115, 113, 117, 101, 101, 122, 101]⟩] w fun e w' => Formed (some (1, 1, [⟨⟨#[97, 120, 101, 115]⟩, 7, true⟩, thenRa])) w w' e ∧ w.grownBy w' none := by
  have e1 : isOne ⟨#[85, 110, 115, 113, 117, 101, 101, 122, 101]⟩ = false := by simp only [isOne, bytes_toList]; rfl
  have O1 := hide (rone_any ⟨#[85, 110, 115, 113, 117, 101, 101, 122, 101]⟩ w)
  rw [e1] at O1
  have e2 : isTwo ⟨#[85, 110, 115, 113, 117, 101, 101, 122, 101]⟩ = false := by simp only [isTwo, twoL, eqS, List.any_cons, List.any_nil, bytes_toList]; rfl
  have O2 := hide (fun wx => rtwo_any ⟨#[85, 110, 115, 113, 117, 101, 101, 122, 101]⟩ wx)
  rw [e2] at O2
  clear e2
  clear e1
  go_enter Tryd.func73, Tryd.ntmps73
  go_wp2_with fail
  refine O1.out.mono ?_
  rintro e v0 ⟨rfl, h0⟩
  go_wp2_with fail
  refine (O2.out v0).mono ?_
  rintro e v1 ⟨rfl, h1'⟩
  have h1 := grown_trans h0 h1'
  go_wp2_with fail
  refine (rmust_any _ _ _).mono ?_
  rintro e v2 ⟨rfl, h2'⟩
  have h2 := grown_trans h1 h2'
  have FL := hide (forms_lit v2 [⟨⟨#[97, 120, 101, 115]⟩, 7, true⟩] (by decide) (by decide))
  have G := hide (grown_trans h2 (grown_new v2 (.cells #[.string ⟨#[97, 120, 101, 115]⟩, .int .i64 7, .bool true] 133)))
  go_wp2
  refine bodyPost_ret (results_tmp4 rfl _ _ _) rfl ?_
  exact ⟨⟨⟨some ⟨v2.heap.size, 0, none⟩, 1, 1⟩, [⟨⟨#[97, 120, 101, 115]⟩, 7, true⟩], rfl, rfl, OwnsL.base_le FL.out h2.size⟩, G.out⟩

set_option maxRecDepth 100000 in
set_option maxHeartbeats 1600000 in
theorem rof_Flatten (w : World) :
    Calls Tryd.prog 73 #[.string ⟨#[70, 108, 97, 116, 116, 101, 110]⟩] w fun e w' => Formed (some (1, 1, [⟨⟨#[97, 120, 105, 115]⟩, 2, false⟩, thenRa])) w w' e ∧ w.grownBy w' none := by
  have e1 : isOne ⟨#[70, 108, 97, 116, 116, 101, 110]⟩ = false := by simp only [isOne, bytes_toList]; rfl
  have O1 := hide (rone_any ⟨#[70, 108, 97, 116, 116, 101, 110]⟩ w)
  rw [e1] at O1
  have e2 : isTwo ⟨#[70, 108, 97, 116, 116, 101, 110]⟩ = false := by simp only [isTwo, twoL, eqS, List.any_cons, List.any_nil, bytes_toList]; rfl
  have O2 := hide (fun wx => rtwo_any ⟨#[70, 108, 97, 116, 116, 101, 110]⟩ wx)
  rw [e2] at O2
  clear e2
  clear e1
  go_enter Tryd.func73, Tryd.ntmps73
  go_wp2_with fail
  refine O1.out.mono ?_
  rintro e v0 ⟨rfl, h0⟩
  go_wp2_with fail
  refine (O2.out v0).mono ?_
  rintro e v1 ⟨rfl, h1'⟩
  have h1 := grown_trans h0 h1'
  go_wp2_with fail
  refine (ropt_any _ _ _).mono ?_
  rintro e v2 ⟨rfl, h2'⟩
  have h2 := grown_trans h1 h2'
  have FL := hide (forms_lit v2 [⟨⟨#[97, 120, 105, 115]⟩, 2, false⟩] (by decide) (by decide))
  have G := hide (grown_trans h2 (grown_new v2 (.cells #[.string ⟨#[97, 120, 105, 115]⟩, .int .i64 2, .bool false] 133)))
  go_wp2
  refine bodyPost_ret (results_tmp4 rfl _ _ _) rfl ?_
  exact ⟨⟨⟨some ⟨v2.heap.size, 0, none⟩, 1, 1⟩, [⟨⟨#[97, 120, 105, 115]⟩, 2, false⟩], rfl, rfl, OwnsL.base_le FL.out h2.size⟩, G.out⟩

set_option maxRecDepth 100000 in
set_option maxHeartbeats 1600000 in
theorem rof_Softmax (w : World) :
    Calls Tryd.prog 73 #[.string ⟨#[83, 111, 102, 116, 109, 97, 120]⟩] w fun e w' => Formed (some (1, 1, [⟨⟨#[97, 120, 105, 115]⟩, 2, false⟩, thenRa])) w w' e ∧ w.grownBy w' none := by
  have e1 : isOne ⟨#[83, 111, 102, 116, 109, 97, 120]⟩ = false := by simp only [isOne, bytes_toList]; rfl
  have O1 := hide (rone_any ⟨#[83, 111, 102, 116, 109, 97, 120]⟩ w)
  rw [e1] at O1
  have e2 : isTwo ⟨#[83, 111, 102, 116, 109, 97, 120]⟩ = false := by simp only [isTwo, twoL, eqS, List.any_cons, List.any_nil, bytes_toList]; rfl
  have O2 := hide (fun wx => rtwo_any ⟨#[83, 111, 102, 116, 109, 97, 120]⟩ wx)
  rw [e2] at O2
  clear e2
  clear e1
  go_enter Tryd.func73, Tryd.ntmps73
  go_wp2_with fail
  refine O1.out.mono ?_
  rintro e v0 ⟨rfl, h0⟩
  go_wp2_with fail
  refine (O2.out v0).mono ?_
  rintro e v1 ⟨rfl, h1'⟩
  have h1 := grown_trans h0 h1'
  go_wp2_with fail
  refine (ropt_any _ _ _).mono ?_
  rintro e v2 ⟨rfl, h2'⟩
  have h2 := grown_trans h1 h2'
  have FL := hide (forms_lit v2 [⟨⟨#[97, 120, 105, 115]⟩, 2, false⟩] (by decide) (by decide))
  have G := hide (grown_trans h2 (grown_new v2 (.cells #[.string ⟨#[97, 120, 105, 115]⟩, .int .i64 2, .bool false] 133)))
  go_wp2
  refine bodyPost_ret (results_tmp4 rfl _ _ _) rfl ?_
  exact ⟨⟨⟨some ⟨v2.heap.size, 0, none⟩, 1, 1⟩, [⟨⟨#[97, 120, 105, 115]⟩, 2, false⟩], rfl, rfl, OwnsL.base_le FL.out h2.size⟩, G.out⟩

set_option maxRecDepth 100000 in
set_option maxHeartbeats 1600000 in
theorem rof_Gemm (w : World) :
    Calls Tryd.prog 73 #[.string ⟨#[71, 101, 109, 109]⟩] w fun e w' => Formed (some (2, 3, [⟨⟨#[116, 114, 97, 110, 115, 65]⟩, 2, false⟩, ⟨⟨#[116, 114, 97, 110, 115, 66]⟩, 2, false⟩, ⟨⟨#[97, 108, 112, 104, 97]⟩, 1, false⟩, ⟨⟨#[98, 101, 116, 97]⟩, 1, false⟩, thenRa])) w w' e ∧ w.grownBy w' none := by
  have e1 : isOne ⟨#[71, 101, 109, 109]⟩ = false := by simp only [isOne, bytes_toList]; rfl
  have O1 := hide (rone_any ⟨#[71, 101, 109, 109]⟩ w)
  rw [e1] at O1
  have e2 : isTwo ⟨#[71, 101, 109, 109]⟩ = false := by simp only [isTwo, twoL, eqS, List.any_cons, List.any_nil, bytes_toList]; rfl
  have O2 := hide (fun wx => rtwo_any ⟨#[71, 101, 109, 109]⟩ wx)
  rw [e2] at O2
  clear e2
  clear e1
  go_enter Tryd.func73, Tryd.ntmps73
  go_wp2_with fail
  refine O1.out.mono ?_
  rintro e v0 ⟨rfl, h0⟩
  go_wp2_with fail
  refine (O2.out v0).mono ?_
  rintro e v1 ⟨rfl, h1'⟩
  have h1 := grown_trans h0 h1'
  go_wp2_with fail
  refine (ropt_any _ _ _).mono ?_
  rintro e v2 ⟨rfl, h2'⟩
  have h2 := grown_trans h1 h2'
  go_wp2_with fail
  refine (ropt_any _ _ _).mono ?_
  rintro e v3 ⟨rfl, h3'⟩
  have h3 := grown_trans h2 h3'
  go_wp2_with fail
  refine (ropt_any _ _ _).mono ?_
  rintro e v4 ⟨rfl, h4'⟩
  have h4 := grown_trans h3 h4'
  go_wp2_with fail
  refine (ropt_any _ _ _).mono ?_
  rintro e v5 ⟨rfl, h5'⟩
  have h5 := grown_trans h4 h5'
  have FL := hide (forms_lit v5 [⟨⟨#[116, 114, 97, 110, 115, 65]⟩, 2, false⟩, ⟨⟨#[116, 114, 97, 110, 115, 66]⟩, 2, false⟩, ⟨⟨#[97, 108, 112, 104, 97]⟩, 1, false⟩, ⟨⟨#[98, 101, 116, 97]⟩, 1, false⟩] (by decide) (by decide))
  have G := hide (grown_trans h5 (grown_new v5 (.cells #[.string ⟨#[116, 114, 97, 110, 115, 65]⟩, .int .i64 2, .bool false, .string ⟨#[116, 114, 97, 110, 115, 66]⟩, .int .i64 2, .bool false, .string ⟨#[97, 108, 112, 104, 97]⟩, .int .i64 1, .bool false, .string ⟨#[98, 101, 116, 97]⟩, .int .i64 1, .bool false] 133)))
  go_wp2
  refine bodyPost_ret (results_tmp4 rfl _ _ _) rfl ?_
  exact ⟨⟨⟨some ⟨v5.heap.size, 0, none⟩, 4, 4⟩, [⟨⟨#[116, 114, 97, 110, 115, 65]⟩, 2, false⟩, ⟨⟨#[116, 114, 97, 110, 115, 66]⟩, 2, false⟩, ⟨⟨#[97, 108, 112, 104, 97]⟩, 1, false⟩, ⟨⟨#[98, 101, 116, 97]⟩, 1, false⟩], rfl, rfl, OwnsL.base_le FL.out h5.size⟩, G.out⟩

set_option maxRecDepth 100000 in
set_option maxHeartbeats 1600000 in
theorem rof_Conv (w : World) :
    Calls Tryd.prog 73 #[.string ⟨#[67, 111, 110, 118]⟩] w fun e w' => Formed (some (2, 3, [⟨⟨#[115, 116, 114, 105, 100, 101, 115]⟩, 7, false⟩, ⟨⟨#[112, 97, 100, 115]⟩, 7, false⟩, ⟨⟨#[100, 105, 108, 97, 116, 105, 111, 110, 115]⟩, 7, false⟩, ⟨⟨#[103, 114, 111, 117, 112]⟩, 2, false⟩, thenRa])) w w' e ∧ w.grownBy w' none := by
  have e1 : isOne ⟨#[67, 111, 110, 118]⟩ = false := by simp only [isOne, bytes_toList]; rfl
  have O1 := hide (rone_any ⟨#[67, 111, 110, 118]⟩ w)
  rw [e1] at O1
  have e2 : isTwo ⟨#[67, 111, 110, 118]⟩ = false := by simp only [isTwo, twoL, eqS, List.any_cons, List.any_nil, bytes_toList]; rfl
  have O2 := hide (fun wx => rtwo_any ⟨#[67, 111, 110, 118]⟩ wx)
  rw [e2] at O2
  clear e2
  clear e1
  go_enter Tryd.func73, Tryd.ntmps73
  go_wp2_with fail
  refine O1.out.mono ?_
  rintro e v0 ⟨rfl, h0⟩
  go_wp2_with fail
  refine (O2.out v0).mono ?_
  rintro e v1 ⟨rfl, h1'⟩
  have h1 := grown_trans h0 h1'
  go_wp2_with fail
  refine (ropt_any _ _ _).mono ?_
  rintro e v2 ⟨rfl, h2'⟩
  have h2 := grown_trans h1 h2'
  go_wp2_with fail
  refine (ropt_any _ _ _).mono ?_
  rintro e v3 ⟨rfl, h3'⟩
  have h3 := grown_trans h2 h3'
  go_wp2_with fail
  refine (ropt_any _ _ _).mono ?_
  rintro e v4 ⟨rfl, h4'⟩
  have h4 := grown_trans h3 h4'
  go_wp2_with fail
  refine (ropt_any _ _ _).mono ?_
  rintro e v5 ⟨rfl, h5'⟩
  have h5 := grown_trans h4 h5'
  have FL := hide (forms_lit v5 [⟨⟨#[115, 116, 114, 105, 100, 101, 115]⟩, 7, false⟩, ⟨⟨#[112, 97, 100, 115]⟩, 7, false⟩, ⟨⟨#[100, 105, 108, 97, 116, 105, 111, 110, 115]⟩, 7, false⟩, ⟨⟨#[103, 114, 111, 117, 112]⟩, 2, false⟩] (by decide) (by decide))
  have G := hide (grown_trans h5 (grown_new v5 (.cells #[.string ⟨#[115, 116, 114, 105, 100, 101, 115]⟩, .int .i64 7, .bool false, .string ⟨#[112, 97, 100, 115]⟩, .int .i64 7, .bool false, .string ⟨#[100, 105, 108, 97, 116, 105, 111, 110, 115]⟩, .int .i64 7, .bool false, .string ⟨#[103, 114, 111, 117, 112]⟩, .int .i64 2, .bool false] 133)))
  go_wp2
  refine bodyPost_ret (results_tmp4 rfl _ _ _) rfl ?_
  exact ⟨⟨⟨some ⟨v5.heap.size, 0, none⟩, 4, 4⟩, [⟨⟨#[115, 116, 114, 105, 100, 101, 115]⟩, 7, false⟩, ⟨⟨#[112, 97, 100, 115]⟩, 7, false⟩, ⟨⟨#[100, 105, 108, 97, 116, 105, 111, 110, 115]⟩, 7, false⟩, ⟨⟨#[103, 114, 111, 117, 112]⟩, 2, false⟩], rfl, rfl, OwnsL.base_le FL.out h5.size⟩, G.out⟩

set_option maxRecDepth 100000 in
set_option maxHeartbeats 1600000 in
theorem rof_MaxPool (w : World) :
    Calls Tryd.prog 73 #[.string ⟨#[77, 97, 120, 80, 111, 111, 108]⟩] w fun e w' => Formed (some (1, 1, [⟨⟨#[107, 101, 114, 110, 101, 108, 95, 115, 104, 97, 112, 101]⟩, 7, true⟩, ⟨⟨#[115, 116, 114, 105, 100, 101, 115]⟩, 7, false⟩, ⟨⟨#[112, 97, 100, 115]⟩, 7, false⟩, thenRa])) w w' e ∧ w.grownBy w' none := by
  have e1 : isOne ⟨#[77, 97, 120, 80, 111, 111, 108]⟩ = false := by simp only [isOne, bytes_toList]; rfl
  have O1 := hide (rone_any ⟨#[77, 97, 120, 80, 111, 111, 108]⟩ w)
  rw [e1] at O1
  have e2 : isTwo ⟨#[77, 97, 120, 80, 111, 111, 108]⟩ = false := by simp only [isTwo, twoL, eqS, List.any_cons, List.any_nil, bytes_toList]; rfl
  have O2 := hide (fun wx => rtwo_any ⟨#[77, 97, 120, 80, 111, 111, 108]⟩ wx)
  rw [e2] at O2
  clear e2
  clear e1
  go_enter Tryd.func73, Tryd.ntmps73
  go_wp2_with fail
  refine O1.out.mono ?_
  rintro e v0 ⟨rfl, h0⟩
  go_wp2_with fail
  refine (O2.out v0).mono ?_
  rintro e v1 ⟨rfl, h1'⟩
  have h1 := grown_trans h0 h1'
  go_wp2_with fail
  refine (rmust_any _ _ _).mono ?_
  rintro e v2 ⟨rfl, h2'⟩
  have h2 := grown_trans h1 h2'
  go_wp2_with fail
  refine (ropt_any _ _ _).mono ?_
  rintro e v3 ⟨rfl, h3'⟩
  have h3 := grown_trans h2 h3'
  go_wp2_with fail
  refine (ropt_any _ _ _).mono ?_
  rintro e v4 ⟨rfl, h4'⟩
  have h4 := grown_trans h3 h4'
  have FL := hide (forms_lit v4 [⟨⟨#[107, 101, 114, 110, 101, 108, 95, 115, 104, 97, 112, 101]⟩, 7, true⟩, ⟨⟨#[115, 116, 114, 105, 100, 101, 115]⟩, 7, false⟩, ⟨⟨#[112, 97, 100, 115]⟩, 7, false⟩] (by decide) (by decide))
  have G := hide (grown_trans h4 (grown_new v4 (.cells #[.string ⟨#[107, 101, 114, 110, 101, 108, 95, 115, 104, 97, 112, 101]⟩, .int .i64 7, .bool true, .string ⟨#[115, 116, 114, 105, 100, 101, 115]⟩, .int .i64 7, .bool false, .string ⟨#[112, 97, 100, 115]⟩, .int .i64 7, .bool false] 133)))
  go_wp2
  refine bodyPost_ret (results_tmp4 rfl _ _ _) rfl ?_
  exact ⟨⟨⟨some ⟨v4.heap.size, 0, none⟩, 3, 3⟩, [⟨⟨#[107, 101, 114, 110, 101, 108, 95, 115, 104, 97, 112, 101]⟩, 7, true⟩, ⟨⟨#[115, 116, 114, 105, 100, 101, 115]⟩, 7, false⟩, ⟨⟨#[112, 97, 100, 115]⟩, 7, false⟩], rfl, rfl, OwnsL.base_le FL.out h4.size⟩, G.out⟩

set_option maxRecDepth 100000 in
set_option maxHeartbeats 1600000 in
theorem rof_AveragePool (w : World) :
    Calls Tryd.prog 73 #[.string ⟨#[65, 118, 101, 114, 97, 103, 101, 80, 111, 111, 108]⟩] w fun e w' => Formed (some (1, 1, [⟨⟨#[107, 101, 114, 110, 101, 108, 95, 115, 104, 97, 112, 101]⟩, 7, true⟩, ⟨⟨#[115, 116, 114, 105, 100, 101, 115]⟩, 7, false⟩, ⟨⟨#[112, 97, 100, 115]⟩, 7, false⟩, thenRa])) w w' e ∧ w.grownBy w' none := by
  have e1 : isOne ⟨#[65, 118, 101, 114, 97, 103, 101, 80, 111, 111, 108]⟩ = false := by simp only [isOne, bytes_toList]; rfl
  have O1 := hide (rone_any ⟨#[65, 118, 101, 114, 97, 103, 101, 80, 111, 111, 108]⟩ w)
  rw [e1] at O1
  have e2 : isTwo ⟨#[65, 118, 101, 114, 97, 103, 101, 80, 111, 111, 108]⟩ = false := by simp only [isTwo, twoL, eqS, List.any_cons, List.any_nil, bytes_toList]; rfl
  have O2 := hide (fun wx => rtwo_any ⟨#[65, 118, 101, 114, 97, 103, 101, 80, 111, 111, 108]⟩ wx)
  rw [e2] at O2
  clear e2
  clear e1
  go_enter Tryd.func73, Tryd.ntmps73
  go_wp2_with fail
  refine O1.out.mono ?_
  rintro e v0 ⟨rfl, h0⟩
  go_wp2_with fail
  refine (O2.out v0).mono ?_
  rintro e v1 ⟨rfl, h1'⟩
  have h1 := grown_trans h0 h1'
  go_wp2_with fail
  refine (rmust_any _ _ _).mono ?_
  rintro e v2 ⟨rfl, h2'⟩
  have h2 := grown_trans h1 h2'
  go_wp2_with fail
  refine (ropt_any _ _ _).mono ?_
  rintro e v3 ⟨rfl, h3'⟩
  have h3 := grown_trans h2 h3'
  go_wp2_with fail
  refine (ropt_any _ _ _).mono ?_
  rintro e v4 ⟨rfl, h4'⟩
  have h4 := grown_trans h3 h4'
  have FL := hide (forms_lit v4 [⟨⟨#[107, 101, 114, 110, 101, 108, 95, 115, 104, 97, 112, 101]⟩, 7, true⟩, ⟨⟨#[115, 116, 114, 105, 100, 101, 115]⟩, 7, false⟩, ⟨⟨#[112, 97, 100, 115]⟩, 7, false⟩] (by decide) (by decide))
  have G := hide (grown_trans h4 (grown_new v4 (.cells #[.string ⟨#[107, 101, 114, 110, 101, 108, 95, 115, 104, 97, 112, 101]⟩, .int .i64 7, .bool true, .string ⟨#[115, 116, 114, 105, 100, 101, 115]⟩, .int .i64 7, .bool false, .string ⟨#[112, 97, 100, 115]⟩, .int .i64 7, .bool false] 133)))
  go_wp2
  refine bodyPost_ret (results_tmp4 rfl _ _ _) rfl ?_
  exact ⟨⟨⟨some ⟨v4.heap.size, 0, none⟩, 3, 3⟩, [⟨⟨#[107, 101, 114, 110, 101, 108, 95, 115, 104, 97, 112, 101]⟩, 7, true⟩, ⟨⟨#[115, 116, 114, 105, 100, 101, 115]⟩, 7, false⟩, ⟨⟨#[112, 97, 100, 115]⟩, 7, false⟩], rfl, rfl, OwnsL.base_le FL.out h4.size⟩, G.out⟩

set_option maxRecDepth 100000 in
set_option maxHeartbeats 1600000 in
theorem rof_GlobalAveragePool (w : World) :
    Calls Tryd.prog 73 #[.string ⟨#[71, 108, 111, 98, 97, 108, 65, 118, 101, 114, 97, 103, 101, 80, 111, 111, 108]⟩] w fun e w' => Formed (some (1, 1, [thenRa])) w w' e ∧ w.grownBy w' none := by
  have e1 : isOne ⟨#[71, 108, 111, 98, 97, 108, 65, 118, 101, 114, 97, 103, 101, 80, 111, 111, 108]⟩ = false := by simp only [isOne, bytes_toList]; rfl
  have O1 := hide (rone_any ⟨#[71, 108, 111, 98, 97, 108, 65, 118, 101, 114, 97, 103, 101, 80, 111, 111, 108]⟩ w)
  rw [e1] at O1
  clear e1
  go_enter Tryd.func73, Tryd.ntmps73
  go_wp2_with fail
  refine O1.out.mono ?_
  rintro e v0 ⟨rfl, h0⟩
  have h1 := h0
  obtain ⟨v1, rfl⟩ : ∃ v1, v1 = v0 := ⟨_, rfl⟩
  go_wp2
  refine bodyPost_ret (results_tmp4 rfl _ _ _) rfl ?_
  exact ⟨⟨⟨none, 0, 0⟩, [], rfl, rfl, OwnsL.nil ..⟩, h1⟩

set_option maxRecDepth 100000 in
set_option maxHeartbeats 1600000 in
theorem rof_BatchNormalization (w : World) :
    Calls Tryd.prog 73 #[.string ⟨#[66, 97, 116, 99, 104, 78, 111, 114, 109, 97, 108, 105, 122, 97, 116, 105, 111, 110]⟩] w fun e w' => Formed (some (5, 5, [⟨⟨#[101, 112, 115, 105, 108, 111, 110]⟩, 1, false⟩, thenRa])) w w' e ∧ w.grownBy w' none := by
  have e1 : isOne ⟨#[66, 97, 116, 99, 104, 78, 111, 114, 109, 97, 108, 105, 122, 97, 116, 105, 111, 110]⟩ = false := by simp only [isOne, bytes_toList]; rfl
  have O1 := hide (rone_any ⟨#[66, 97, 116, 99, 104, 78, 111, 114, 109, 97, 108, 105, 122, 97, 116, 105, 111, 110]⟩ w)
  rw [e1] at O1
  have e2 : isTwo ⟨#[66, 97, 116, 99, 104, 78, 111, 114, 109, 97, 108, 105, 122, 97, 116, 105, 111, 110]⟩ = false := by simp only [isTwo, twoL, eqS, List.any_cons, List.any_nil, bytes_toList]; rfl
  have O2 := hide (fun wx => rtwo_any ⟨#[66, 97, 116, 99, 104, 78, 111, 114, 109, 97, 108, 105, 122, 97, 116, 105, 111, 110]⟩ wx)
  rw [e2] at O2
  clear e2
  clear e1
  go_enter Tryd.func73, Tryd.ntmps73
  go_wp2_with fail
  refine O1.out.mono ?_
  rintro e v0 ⟨rfl, h0⟩
  go_wp2_with fail
  refine (O2.out v0).mono ?_
  rintro e v1 ⟨rfl, h1'⟩
  have h1 := grown_trans h0 h1'
  go_wp2_with fail
  refine (ropt_any _ _ _).mono ?_
  rintro e v2 ⟨rfl, h2'⟩
  have h2 := grown_trans h1 h2'
  have FL := hide (forms_lit v2 [⟨⟨#[101, 112, 115, 105, 108, 111, 110]⟩, 1, false⟩] (by decide) (by decide))
  have G := hide (grown_trans h2 (grown_new v2 (.cells #[.string ⟨#[101, 112, 115, 105, 108, 111, 110]⟩, .int .i64 1, .bool false] 133)))
  go_wp2
  refine bodyPost_ret (results_tmp4 rfl _ _ _) rfl ?_
  exact ⟨⟨⟨some ⟨v2.heap.size, 0, none⟩, 1, 1⟩, [⟨⟨#[101, 112, 115, 105, 108, 111, 110]⟩, 1, false⟩], rfl, rfl, OwnsL.base_le FL.out h2.size⟩, G.out⟩

set_option maxRecDepth 100000 in
set_option maxHeartbeats 1600000 in
theorem rof_Constant (w : World) :
    Calls Tryd.prog 73 #[.string ⟨#[67, 111, 110, 115, 116, 97, 110, 116]⟩] w fun e w' => Formed (some (0, 0, [⟨⟨#[118, 97, 108, 117, 101]⟩, 4, true⟩, thenRa])) w w' e ∧ w.grownBy w' none := by
  have e1 : isOne ⟨#[67, 111, 110, 115, 116, 97, 110, 116]⟩ = false := by simp only [isOne, bytes_toList]; rfl
  have O1 := hide (rone_any ⟨#[67, 111, 110, 115, 116, 97, 110, 116]⟩ w)
  rw [e1] at O1
  have e2 : isTwo ⟨#[67, 111, 110, 115, 116, 97, 110, 116]⟩ = false := by simp only [isTwo, twoL, eqS, List.any_cons, List.any_nil, bytes_toList]; rfl
  have O2 := hide (fun wx => rtwo_any ⟨#[67, 111, 110, 115, 116, 97, 110, 116]⟩ wx)
  rw [e2] at O2
  clear e2
  clear e1
  go_enter Tryd.func73, Tryd.ntmps73
  go_wp2_with fail
  refine O1.out.mono ?_
  rintro e v0 ⟨rfl, h0⟩
  go_wp2_with fail
  refine (O2.out v0).mono ?_
  rintro e v1 ⟨rfl, h1'⟩
  have h1 := grown_trans h0 h1'
  go_wp2_with fail
  refine (rmust_any _ _ _).mono ?_
  rintro e v2 ⟨rfl, h2'⟩
  have h2 := grown_trans h1 h2'
  have FL := hide (forms_lit v2 [⟨⟨#[118, 97, 108, 117, 101]⟩, 4, true⟩] (by decide) (by decide))
  have G := hide (grown_trans h2 (grown_new v2 (.cells #[.string ⟨#[118, 97, 108, 117, 101]⟩, .int .i64 4, .bool true] 133)))
  go_wp2
  refine bodyPost_ret (results_tmp4 rfl _ _ _) rfl ?_
  exact ⟨⟨⟨some ⟨v2.heap.size, 0, none⟩, 1, 1⟩, [⟨⟨#[118, 97, 108, 117, 101]⟩, 4, true⟩], rfl, rfl, OwnsL.base_le FL.out h2.size⟩, G.out⟩

end Go.Proofs.YtmdpeckeliplkaaDoor

/- The document's of, at any operator (mkROf.py). -/
namespace Go.Proofs.YtmdpeckeliplkaaDoor
open Go.RowKit

set_option maxRecDepth 100000 in
theorem rof_each (w : World) : ∀ r ∈ rules, Calls Tryd.prog 73 #[.string (B r.1)] w fun e w' => Formed (some r.2) w w' e ∧ w.grownBy w' none := by
  unfold rules
  simp only [List.forall_mem_cons]
  exact ⟨rof_Identity w, rof_Neg w, rof_Abs w, rof_Not w, rof_Relu w, rof_Sqrt w, rof_Floor w, rof_Exp w, rof_Sigmoid w, rof_Tanh w, rof_Add w, rof_Sub w, rof_Mul w, rof_Div w, rof_Max w, rof_Min w, rof_And w, rof_Or w, rof_Xor w, rof_Equal w, rof_Less w, rof_Greater w, rof_MatMul w, rof_Where w, rof_Clip w, rof_Cast w, rof_ReduceSum w, rof_ReduceMax w, rof_ReduceMean w, rof_ArgMax w, rof_Reshape w, rof_Expand w, rof_Transpose w, rof_Concat w, rof_Slice w, rof_Gather w, rof_Pad w, rof_Squeeze w, rof_Unsqueeze w, rof_Flatten w, rof_Softmax w, rof_Gemm w, rof_Conv w, rof_MaxPool w, rof_AveragePool w, rof_GlobalAveragePool w, rof_BatchNormalization w, rof_Constant w, fun r hr => absurd hr (List.not_mem_nil)⟩

set_option maxRecDepth 100000 in
set_option maxHeartbeats 6400000 in
theorem rof_none (s : ByteArray) (h : rules.find? (fun r => r.1 == s.toList) = none) (w : World) :
    Calls Tryd.prog 73 #[.string s] w fun e w' => Formed none w w' e ∧ w.grownBy w' none := by
  have e1 : isOne s = false := by
    unfold isOne
    rw [List.any_eq_false]
    intro n hn
    have h2 := rules_no h n (by revert n; decide)
    rw [beq_eq_false_iff_ne] at h2
    simpa using fun e => h2 e.symm
  have e2 : isTwo s = false := by
    simp only [isTwo, twoL, eqS, List.any_cons, List.any_nil, Bool.or_false, Bool.or_eq_false_iff]
    have k : ∀ x : ByteArray, x.data.toList ∈ rules.map (·.1) → (x.toList == s.toList) = false := fun x hx => by
      have h2 := rules_no h x.data.toList hx
      rw [beq_eq_false_iff_ne] at h2 ⊢
      rw [bytes_toList x]
      exact fun e => h2 e.symm
    exact ⟨k _ (by decide), k _ (by decide), k _ (by decide), k _ (by decide), k _ (by decide), k _ (by decide), k _ (by decide), k _ (by decide), k _ (by decide), k _ (by decide), k _ (by decide), k _ (by decide)⟩
  have O1 := hide (rone_any s w)
  have O2 := hide (fun wx => rtwo_any s wx)
  rw [e1] at O1
  rw [e2] at O2
  have q0 : (s.toList == [77, 97, 116, 77, 117, 108]) = false := rules_no h _ (by decide)
  have q1 : (s.toList == [87, 104, 101, 114, 101]) = false := rules_no h _ (by decide)
  have q2 : (s.toList == [67, 108, 105, 112]) = false := rules_no h _ (by decide)
  have q3 : (s.toList == [67, 97, 115, 116]) = false := rules_no h _ (by decide)
  have q4 : (s.toList == [82, 101, 100, 117, 99, 101, 83, 117, 109]) = false := rules_no h _ (by decide)
  have q5 : (s.toList == [82, 101, 100, 117, 99, 101, 77, 97, 120]) = false := rules_no h _ (by decide)
  have q6 : (s.toList == [82, 101, 100, 117, 99, 101, 77, 101, 97, 110]) = false := rules_no h _ (by decide)
  have q7 : (s.toList == [65, 114, 103, 77, 97, 120]) = false := rules_no h _ (by decide)
  have q8 : (s.toList == [82, 101, 115, 104, 97, 112, 101]) = false := rules_no h _ (by decide)
  have q9 : (s.toList == [69, 120, 112, 97, 110, 100]) = false := rules_no h _ (by decide)
  have q10 : (s.toList == [84, 114, 97, 110, 115, 112, 111, 115, 101]) = false := rules_no h _ (by decide)
  have q11 : (s.toList == [67, 111, 110, 99, 97, 116]) = false := rules_no h _ (by decide)
  have q12 : (s.toList == [83, 108, 105, 99, 101]) = false := rules_no h _ (by decide)
  have q13 : (s.toList == [71, 97, 116, 104, 101, 114]) = false := rules_no h _ (by decide)
  have q14 : (s.toList == [80, 97, 100]) = false := rules_no h _ (by decide)
  have q15 : (s.toList == [83, 113, 117, 101, 101, 122, 101]) = false := rules_no h _ (by decide)
  have q16 : (s.toList == [85, 110, 115, 113, 117, 101, 101, 122, 101]) = false := rules_no h _ (by decide)
  have q17 : (s.toList == [70, 108, 97, 116, 116, 101, 110]) = false := rules_no h _ (by decide)
  have q18 : (s.toList == [83, 111, 102, 116, 109, 97, 120]) = false := rules_no h _ (by decide)
  have q19 : (s.toList == [71, 101, 109, 109]) = false := rules_no h _ (by decide)
  have q20 : (s.toList == [67, 111, 110, 118]) = false := rules_no h _ (by decide)
  have q21 : (s.toList == [77, 97, 120, 80, 111, 111, 108]) = false := rules_no h _ (by decide)
  have q22 : (s.toList == [65, 118, 101, 114, 97, 103, 101, 80, 111, 111, 108]) = false := rules_no h _ (by decide)
  have q23 : (s.toList == [71, 108, 111, 98, 97, 108, 65, 118, 101, 114, 97, 103, 101, 80, 111, 111, 108]) = false := rules_no h _ (by decide)
  have q24 : (s.toList == [66, 97, 116, 99, 104, 78, 111, 114, 109, 97, 108, 105, 122, 97, 116, 105, 111, 110]) = false := rules_no h _ (by decide)
  have q25 : (s.toList == [67, 111, 110, 115, 116, 97, 110, 116]) = false := rules_no h _ (by decide)
  clear e1 e2 h
  go_enter Tryd.func73, Tryd.ntmps73
  go_wp2_with fail
  refine O1.out.mono ?_
  rintro e v0 ⟨rfl, h0⟩
  go_wp2_with fail
  refine (O2.out v0).mono ?_
  rintro e v1 ⟨rfl, h1⟩
  go_wp2
  refine bodyPost_ret (results_tmp4 rfl _ _ _) rfl ?_
  exact ⟨rfl, grown_trans h0 h1⟩

theorem rof_any (s : ByteArray) (w : World) :
    Calls Tryd.prog 73 #[.string s] w fun e w' => Formed (ruleF s) w w' e ∧ w.grownBy w' none := by
  unfold ruleF
  cases h : rules.find? (fun r => r.1 == s.toList) with
  | none => exact rof_none s h w
  | some r =>
    have h1 := List.find?_some h
    have h2 : r.1 = s.data.toList := by rw [← bytes_toList]; simpa using h1
    have h3 := rof_each w r (List.mem_of_find?_eq_some h)
    rw [h2, B_self] at h3
    exact h3
end Go.Proofs.YtmdpeckeliplkaaDoor
