/- The copy of a graph is one that comes in. -/
import Derived.Test.YtmdpeckeliplkaaDoorPartQ
import Derived.Test.YtmdpeckeliplkaaDoorPartS
namespace Go.Proofs.YtmdpeckeliplkaaDoor
open Go.RowKit

theorem mem_key {α γ : Type} {F : α → γ} {xs ys : List α} (h : xs.map F = ys.map F) {x : α} (hx : x ∈ xs) : ∃ y ∈ ys, F y = F x := by
  have h1 : F x ∈ ys.map F := by rw [← h]; exact List.mem_map_of_mem hx
  exact List.mem_map.1 h1

theorem map_toNc (ms : List (Nod × Ni)) : (ms.map toNc).map (·.n) = ms.map (·.1) := by
  rw [List.map_map]
  rfl

section
variable {w w' : World} {g h : Gra} {cs : List Nc} {vin vout : List (Val × List Int)} {its : List (Nam × List Int × List Int)} {ms : List (Nod × Ni)} {vi vo : List (Val × List Int)} {ts : List (Nam × List Int × List Int)} {i0 i1 o0 o1 n0 n1 t0 t1 : Nat}

theorem CopiedG.same (hc : CopiedG w w' g cs vin vout its h ms vi vo ts i0 i1 o0 o1 n0 n1 t0 t1) : SameG cs vin vout its (ms.map toNc) vi vo ts := ⟨hc.kn, hc.ki, hc.ko, hc.kt⟩

theorem CopiedG.inG (hc : CopiedG w w' g cs vin vout its h ms vi vo ts i0 i1 o0 o1 n0 n1 t0 t1) (hg : GraphIn w g cs vin vout its) : GraphIn w' h (ms.map toNc) vi vo ts := by
  obtain ⟨f1, f2, f3, f4⟩ := hg.few
  have l1 := key_len hc.kn
  have l2 := key_len hc.ki
  have l3 := key_len hc.ko
  have l4 := key_len hc.kt
  rw [List.length_map] at l1
  refine ⟨?_, ?_, ?_, ?_, ?_, hc.ins.has, hc.outs.has, hc.inits.has, ?_, ?_⟩
  · rw [map_toNc]
    exact hc.nodes.own.isL ncells_len (by rw [List.length_map]; omega)
  · exact hc.ins.own.isL vcells_len (by rw [List.length_map]; omega)
  · exact hc.outs.own.isL vcells_len (by rw [List.length_map]; omega)
  · exact hc.inits.own.isL mcells_len (by rw [List.length_map]; omega)
  · intro c hcm
    obtain ⟨p, hp, rfl⟩ := List.mem_map.1 hcm
    exact hc.nodes.has p hp
  · intro p hp
    obtain ⟨q, hq, e⟩ := mem_key hc.ki hp
    have := hg.short q hq
    have e1 := congrArg (fun t => t.1) e
    simp only [vkey] at e1
    rw [← e1]
    exact this
  · rw [List.length_map]
    omega

theorem CopiedG.ok (hc : CopiedG w w' g cs vin vout its h ms vi vo ts i0 i1 o0 o1 n0 n1 t0 t1) (hg : GraphOk w g cs vin vout its) : GraphOk w' h (ms.map toNc) vi vo ts := by
  refine ⟨hc.inG hg.base, by rw [hc.same.vnames]; exact hg.vs, by rw [hc.same.onames]; exact hg.os, fun c hcm => ?_⟩
  obtain ⟨q, hq, e⟩ := mem_key (key_ins hc.kn) hcm
  have := hg.is q hq
  rw [← e]
  exact this
end
end Go.Proofs.YtmdpeckeliplkaaDoor
