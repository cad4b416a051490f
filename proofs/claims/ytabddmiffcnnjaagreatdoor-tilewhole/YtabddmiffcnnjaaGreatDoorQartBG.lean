/- Joined texts: TAdd, TLay. -/
import Derived.Test.YtabddmiffcnnjaaGreatDoorQartAH
import Derived.Test.YtabddmiffcnnjaaGreatDoorQartAI
import Derived.Test.YtabddmiffcnnjaaGreatDoorQartBF
import Derived.Test.YtabddmiffcnnjaaGreatDoorQartAX
namespace Go.Proofs.YtabddmiffcnnjaaGreatDoor

open Go.RowKit

def SpTab (w : World) : Prop := ∀ c : Nat, c < 256 → w.cell? ⟨lays157_ren.g 0, c, none⟩ = some (.int .u8 (if Lib.isSp (UInt8.ofNat c) then 1 else 0))

theorem SpTab.more {w w' : World} (h : SpTab w) (hg : w.grownBy w' none) : SpTab w' := fun c hc => cell_still (h c hc) hg

theorem fields_any (s : ByteArray) (w : World) (hs : s.size < 4294967281) (hascii : ∀ (j : Nat) b, s.data.toList[j]? = some b → b.toNat < 128) (hT : SpTab w) : Calls Tryz.prog 94 #[.string s] w fun e w' =>
    e = .returned (.slice (some ⟨w.heap.size, 0, none⟩) (Lib.fields s.data.toList).length (Lib.fields s.data.toList).length) ∧ w' = w.alloc (.cells ((Lib.fields s.data.toList).map fun l => Value.string ⟨l.toArray⟩).toArray 9) :=
  Any.strings_Fields_core lays157 (by kernel_rfl) s w hs hascii hT

theorem cell_of_list {w : World} {b k : Nat} {te : TypeId} {l : List Value} {v : Value} (hb : w.heap[b]? = some (.cells l.toArray te (0, 0))) (h : l[k]? = some v) : w.cell? ⟨b, k, none⟩ = some v := by
  simp [World.cell?, hb, h]

theorem grown_row {a b c : World} {row : Option Nat} (h : a.grownBy b row) (k : b.grownBy c row) : a.grownBy c row :=
  ⟨k.1.trans h.1, k.2.trans h.2, k.3.trans h.3, Nat.le_trans h.4 k.4, fun i hi hn => (k.5 i (Nat.lt_of_lt_of_le hi h.4) hn).trans (h.5 i hi hn)⟩

theorem grown_any_row {a b c : World} {row : Option Nat} (h : a.grownBy b none) (k : b.grownBy c row) : a.grownBy c row :=
  ⟨k.1.trans h.1, k.2.trans h.2, k.3.trans h.3, Nat.le_trans h.4 k.4, fun i hi hn => (k.5 i (Nat.lt_of_lt_of_le hi h.4) hn).trans (h.5 i hi (by simp))⟩

def mkS (l : List UInt8) : ByteArray := ⟨l.toArray⟩

def adds (fv : Value) (ns : List (List UInt8)) : List (ByteArray × Value) := ns.map fun x => (mkS x, fv)

set_option maxRecDepth 100000 in
set_option maxHeartbeats 1600000 in
theorem ladd_any (b : Nat) (fv : Value) (s : ByteArray) (l : List (ByteArray × Value)) (ns : List (List UInt8)) (w : World) (hs : s.size < 4294967281) (hascii : ∀ (j : Nat) b, s.data.toList[j]? = some b → b.toNat < 128) (hns : Lib.fields s.data.toList = ns) (hl : ns.length ≤ 1000)
    (hnd : ∀ k x, ns[k]? = some x → ∀ p ∈ l ++ adds fv (ns.take k), p.1 ≠ mkS x) (hT : SpTab w) (hm : FnMap w b l) : Calls Tryz.prog 47 #[.map (some b), fv, .string s] w fun e w' => e = .returned (.tuple #[]) ∧ FnMap w' b (l ++ adds fv ns) ∧ w.grownBy w' (some b) := by
  have FC : Hid (∀ wx, w.grownBy wx none → Calls Tryz.prog 94 #[.string s] wx fun e w' => e = .returned (.slice (some ⟨wx.heap.size, 0, none⟩) ns.length ns.length) ∧ w' = wx.alloc (.cells (ns.map fun l => Value.string (mkS l)).toArray 9)) := fun wx hx => by
    have := fields_any s wx hs hascii (hT.more hx)
    rw [hns] at this
    exact this
  have HND := hide hnd
  have HM := hide hm
  have hbl := hm.lt
  clear hs hascii hns hnd hT hm
  go_enter Tryz.func47, Tryz.ntmps47
  go_wp2_with (first | (go_at_call 94; refine (FC.out _ (grown_refl _)).mono ?_; rintro e w' ⟨rfl, rfl⟩) | fail)
  obtain ⟨w1, hw1⟩ : ∃ w1, w1 = w.alloc (.cells (ns.map fun l => Value.string (mkS l)).toArray 9) := ⟨_, rfl⟩
  have hb1 := heap_alloc_new w (.cells (ns.map fun l => Value.string (mkS l)).toArray 9)
  rw [← hw1] at hb1 ⊢
  have g1 : w.grownBy w1 none := by rw [hw1]; exact grown_new _ _
  clear hw1
  have HM1 := hide (HM.out.more g1)
  go_loopw [7, 11] (fun _ i wr => ∃ k : Nat, k ≤ ns.length ∧ i = .int .i64 k ∧ FnMap wr b (l ++ adds fv (ns.take k)) ∧ w1.grownBy wr (some b)) (fun _ i _ => ns.length - (intOf i).toNat)
  case atStart => exact ⟨0, Nat.zero_le _, rfl, by simpa [adds] using HM1.out, ⟨rfl, rfl, rfl, Nat.le_refl _, fun _ _ _ => rfl⟩⟩
  case round =>
    obtain ⟨k, hk, rfl, hF, hg⟩ := hrel
    have HF := hide hF
    have HG := hide hg
    clear hF hg
    by_cases hlt : k < ns.length
    · obtain ⟨x, hx⟩ : ∃ x, ns[k]? = some x := ⟨ns[k], List.getElem?_eq_getElem hlt⟩
      have q0 : wr.cell? ⟨w.heap.size, k, none⟩ = some (.string (mkS x)) := by
        have hbk : wr.heap[w.heap.size]? = some (.cells (ns.map fun l => Value.string (mkS l)).toArray 9 (0, 0)) := (HG.out.block _ (Array.getElem?_eq_some_iff.1 hb1).1 (fun e => by cases e; omega)).trans hb1
        exact cell_of_list hbk (by simp [hx])
      have l1 : (k : Int) < (ns.length : Int) := by omega
      have NE := hide (HND.out k x hx)
      have TK : Hid (adds fv (ns.take (k + 1)) = adds fv (ns.take k) ++ [(mkS x, fv)]) := by
        show adds fv (ns.take (k + 1)) = _
        unfold adds
        rw [List.take_add_one, hx, List.map_append]; rfl
      generalize mkS x = X at q0 NE TK
      go_wp2_with (first | (at_mapUpdate; refine wpList_fnUpdate _ rfl (.tmp 15) (.tmp 16) (.tmp 17) 67 rfl 9 92 Tryz.underlying67 Tryz.underlying9 b _ rfl HF.out X fv rfl rfl NE.out ?_; intro w2 hF2 hg2) | fail)
      have HF2 := hide hF2
      have HG2 := hide (grown_row HG.out hg2)
      clear hF2 hg2 q0
      go_wp2_with fail
      go_roundw
      case rel => exact ⟨k + 1, by omega, by go_num, by rw [TK.out, ← List.append_assoc]; exact HF2.out, HG2.out⟩
      case measure => simp [intOf]; omega
    · have hke : k = ns.length := by omega
      subst hke
      have HF3 := hide HF.out
      rw [List.take_length] at HF3
      go_wp2_with fail
      go_end0
      exact ⟨rfl, HF3.out, grown_any_row g1 HG.out⟩

end Go.Proofs.YtabddmiffcnnjaaGreatDoor

namespace Go.Proofs.YtabddmiffcnnjaaGreatDoor

open Go.RowKit

def nmL (l : List (ByteArray × Value)) : List (List UInt8) := l.map fun p => p.1.data.toList

theorem nm_adds (fv : Value) (ns : List (List UInt8)) : nmL (adds fv ns) = ns := by
  unfold nmL adds
  rw [List.map_map]
  conv => rhs; rw [← List.map_id ns]
  exact List.map_congr_left fun x _ => by simp [mkS]

theorem nm_app (l m : List (ByteArray × Value)) : nmL (l ++ m) = nmL l ++ nmL m := List.map_append

theorem ladd_c (b : Nat) (fv : Value) (s : ByteArray) (l : List (ByteArray × Value)) (M ns : List (List UInt8)) (w : World) (hk : (decide (s.size < 4294967281) && s.data.toList.all (fun b => decide (b.toNat < 128)) && (Lib.fields s.data.toList == ns) && decide (ns.length ≤ 1000)) = true)
    (hM : nmL l = M) (hnd : (M ++ ns).Nodup) (hT : SpTab w) (hm : FnMap w b l) : Calls Tryz.prog 47 #[.map (some b), fv, .string s] w fun e w' => e = .returned (.tuple #[]) ∧ FnMap w' b (l ++ adds fv ns) ∧ w.grownBy w' (some b) := by
  simp only [Bool.and_eq_true, decide_eq_true_eq, beq_iff_eq, List.all_eq_true] at hk
  obtain ⟨⟨⟨h1, h2⟩, h3⟩, h4⟩ := hk
  refine ladd_any b fv s l ns w h1 (fun j x hx => h2 x (List.mem_of_getElem? hx)) h3 h4 (fun k x hx p hp e => ?_) hT hm
  have hin : x ∈ nmL (l ++ adds fv (ns.take k)) := List.mem_map.2 ⟨p, hp, by rw [e]; simp [mkS]⟩
  rw [nm_app, nm_adds, hM] at hin
  have hk : k < ns.length := (List.getElem?_eq_some_iff.1 hx).1
  rw [← List.take_append_drop k ns, ← List.append_assoc] at hnd
  have hd := (List.nodup_append.1 hnd).2.2
  refine hd x hin x ?_ rfl
  rw [List.drop_eq_getElem_cons hk]
  have : ns[k] = x := by rw [List.getElem?_eq_getElem hk] at hx; simpa using hx
  rw [this]
  exact List.mem_cons_self

def nms0 : List (List UInt8) := [[73, 100, 101, 110, 116, 105, 116, 121], [78, 101, 103], [65, 98, 115], [78, 111, 116], [82, 101, 108, 117], [83, 113, 114, 116], [70, 108, 111, 111, 114], [69, 120, 112], [83, 105, 103, 109, 111, 105, 100], [84, 97, 110, 104]]

def nms1 : List (List UInt8) := [[65, 100, 100], [83, 117, 98], [77, 117, 108], [68, 105, 118], [77, 97, 120], [77, 105, 110], [65, 110, 100], [79, 114], [88, 111, 114], [69, 113, 117, 97, 108], [76, 101, 115, 115], [71, 114, 101, 97, 116, 101, 114], [87, 104, 101, 114, 101], [67, 108, 105, 112], [67, 97, 115, 116]]

def nms2 : List (List UInt8) := [[82, 101, 115, 104, 97, 112, 101], [69, 120, 112, 97, 110, 100], [84, 114, 97, 110, 115, 112, 111, 115, 101], [67, 111, 110, 99, 97, 116], [83, 108, 105, 99, 101], [71, 97, 116, 104, 101, 114], [80, 97, 100], [83, 113, 117, 101, 101, 122, 101], [85, 110, 115, 113, 117, 101, 101, 122, 101], [70, 108, 97, 116, 116, 101, 110], [67, 111, 110, 115, 116, 97, 110, 116]]

def nms3 : List (List UInt8) := [[82, 101, 100, 117, 99, 101, 83, 117, 109], [82, 101, 100, 117, 99, 101, 77, 97, 120], [82, 101, 100, 117, 99, 101, 77, 101, 97, 110], [65, 114, 103, 77, 97, 120], [83, 111, 102, 116, 109, 97, 120], [66, 97, 116, 99, 104, 78, 111, 114, 109, 97, 108, 105, 122, 97, 116, 105, 111, 110]]

def nms4 : List (List UInt8) := [[77, 97, 116, 77, 117, 108], [71, 101, 109, 109]]

def nms5 : List (List UInt8) := [[67, 111, 110, 118], [77, 97, 120, 80, 111, 111, 108], [65, 118, 101, 114, 97, 103, 101, 80, 111, 111, 108], [71, 108, 111, 98, 97, 108, 65, 118, 101, 114, 97, 103, 101, 80, 111, 111, 108]]

def layL : List (ByteArray × Value) := adds (.func (.func 48) #[] #[]) nms0 ++ adds (.func (.func 48) #[] #[]) nms1 ++ adds (.func (.func 49) #[] #[]) nms2 ++ adds (.func (.func 50) #[] #[]) nms3 ++ adds (.func (.func 51) #[] #[]) nms4 ++ adds (.func (.func 52) #[] #[]) nms5

theorem mem_adds {fv : Value} {ns : List (List UInt8)} {p : ByteArray × Value} (h : p ∈ adds fv ns) : p.2 = fv ∧ p.1.data.toList ∈ ns := by
  obtain ⟨x, hx, rfl⟩ := List.mem_map.1 h
  exact ⟨rfl, by simpa [mkS] using hx⟩

theorem lay_div : (∃ p ∈ layL, p.1 = (⟨#[68, 105, 118]⟩ : ByteArray)) ∧ ∀ p ∈ layL, p.1 = (⟨#[68, 105, 118]⟩ : ByteArray) → p.2 = .func (.func 48) #[] #[] := by
  refine ⟨⟨(mkS [68, 105, 118], .func (.func 48) #[] #[]), ?_, rfl⟩, fun p hp e => ?_⟩
  · unfold layL
    simp only [List.mem_append]
    exact .inl (.inl (.inl (.inl (.inr (List.mem_map.2 ⟨[68, 105, 118], by decide +kernel, rfl⟩)))))
  · unfold layL at hp
    simp only [List.mem_append] at hp
    have hn : p.1.data.toList = [68, 105, 118] := by rw [e]
    rcases hp with ((((hp | hp) | hp) | hp) | hp) | hp
    · exact (mem_adds hp).1
    · exact (mem_adds hp).1
    · exact absurd (hn ▸ (mem_adds hp).2) (by decide +kernel)
    · exact absurd (hn ▸ (mem_adds hp).2) (by decide +kernel)
    · exact absurd (hn ▸ (mem_adds hp).2) (by decide +kernel)
    · exact absurd (hn ▸ (mem_adds hp).2) (by decide +kernel)

set_option maxRecDepth 100000 in
set_option maxHeartbeats 1600000 in
theorem layers_any (w : World) (hT : SpTab w) : Calls Tryz.prog 27 #[] w fun e w' => ∃ B, e = .returned (.map (some B)) ∧ FnMap w' B layL ∧ w.grownBy w' none := by
  have HT := hide hT
  clear hT
  obtain ⟨v0, hv0⟩ : ∃ v, v = w.alloc (.map #[] 0) := ⟨_, rfl⟩
  have F0 := hide (fnmap_nil w)
  have G0 : Hid (w.grownBy v0 none) := by show w.grownBy v0 none; rw [hv0]; exact grown_new _ _
  rw [← hv0] at F0
  have hmk : (Instr.makeMap 67 none).run Tryz.prog w = .ok (.map (some w.heap.size)) (w.alloc (.map #[] 0)) := by kernel_rfl
  go_enter Tryz.func27, Tryz.ntmps27
  go_wp2_with fail
  rw [← hv0]
  clear hv0
  refine (ladd_c w.heap.size (.func (.func 48) #[] #[]) _ ([]) ([]) nms0 _ (by kernel_rfl) (rfl) (by decide +kernel) (HT.out.more G0.out) F0.out).mono ?_
  rintro e v1 ⟨rfl, f1, g1⟩
  have F1 := hide f1
  have G1 := hide (grown_drop G0.out g1 (Nat.le_refl _))
  clear f1 g1
  rw [List.nil_append] at F1
  go_wp2_with fail
  refine (ladd_c w.heap.size (.func (.func 48) #[] #[]) _ (adds (.func (.func 48) #[] #[]) nms0) (nms0) nms1 _ (by kernel_rfl) (by simp only [nm_adds]) (by decide +kernel) (HT.out.more G1.out) F1.out).mono ?_
  rintro e v2 ⟨rfl, f2, g2⟩
  have F2 := hide f2
  have G2 := hide (grown_drop G1.out g2 (Nat.le_refl _))
  clear f2 g2
  go_wp2_with fail
  refine (ladd_c w.heap.size (.func (.func 49) #[] #[]) _ (adds (.func (.func 48) #[] #[]) nms0 ++ adds (.func (.func 48) #[] #[]) nms1) (nms0 ++ nms1) nms2 _ (by kernel_rfl) (by simp only [nm_app, nm_adds]) (by decide +kernel) (HT.out.more G2.out) F2.out).mono ?_
  rintro e v3 ⟨rfl, f3, g3⟩
  have F3 := hide f3
  have G3 := hide (grown_drop G2.out g3 (Nat.le_refl _))
  clear f3 g3
  go_wp2_with fail
  refine (ladd_c w.heap.size (.func (.func 50) #[] #[]) _ (adds (.func (.func 48) #[] #[]) nms0 ++ adds (.func (.func 48) #[] #[]) nms1 ++ adds (.func (.func 49) #[] #[]) nms2) (nms0 ++ nms1 ++ nms2) nms3 _ (by kernel_rfl) (by simp only [nm_app, nm_adds]) (by decide +kernel) (HT.out.more G3.out) F3.out).mono ?_
  rintro e v4 ⟨rfl, f4, g4⟩
  have F4 := hide f4
  have G4 := hide (grown_drop G3.out g4 (Nat.le_refl _))
  clear f4 g4
  go_wp2_with fail
  refine (ladd_c w.heap.size (.func (.func 51) #[] #[]) _ (adds (.func (.func 48) #[] #[]) nms0 ++ adds (.func (.func 48) #[] #[]) nms1 ++ adds (.func (.func 49) #[] #[]) nms2 ++ adds (.func (.func 50) #[] #[]) nms3) (nms0 ++ nms1 ++ nms2 ++ nms3) nms4 _ (by kernel_rfl) (by simp only [nm_app, nm_adds]) (by decide +kernel) (HT.out.more G4.out) F4.out).mono ?_
  rintro e v5 ⟨rfl, f5, g5⟩
  have F5 := hide f5
  have G5 := hide (grown_drop G4.out g5 (Nat.le_refl _))
  clear f5 g5
  go_wp2_with fail
  refine (ladd_c w.heap.size (.func (.func 52) #[] #[]) _ (adds (.func (.func 48) #[] #[]) nms0 ++ adds (.func (.func 48) #[] #[]) nms1 ++ adds (.func (.func 49) #[] #[]) nms2 ++ adds (.func (.func 50) #[] #[]) nms3 ++ adds (.func (.func 51) #[] #[]) nms4) (nms0 ++ nms1 ++ nms2 ++ nms3 ++ nms4) nms5 _ (by kernel_rfl) (by simp only [nm_app, nm_adds]) (by decide +kernel) (HT.out.more G5.out) F5.out).mono ?_
  rintro e v6 ⟨rfl, f6, g6⟩
  have F6 := hide f6
  have G6 := hide (grown_drop G5.out g6 (Nat.le_refl _))
  clear f6 g6
  go_wp2_with fail
  go_ret
  exact ⟨w.heap.size, rfl, F6.out, G6.out⟩

end Go.Proofs.YtabddmiffcnnjaaGreatDoor
