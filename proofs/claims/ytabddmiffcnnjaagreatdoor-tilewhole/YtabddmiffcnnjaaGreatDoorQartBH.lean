/- Joined texts: TFrame. -/
import Derived.Test.YtabddmiffcnnjaaGreatDoorQartAG
import Derived.Test.YtabddmiffcnnjaaGreatDoorQartBG
namespace Go.Proofs.YtabddmiffcnnjaaGreatDoor

open Go.ChangeShapes Go.WideShapes Go.ChangeAt Go.WideMaps Go.WideElems Go.RowKit

abbrev laidT : List (String × DataW Unit) := [("unicode.White_Space", Rows.laid_unicode_White_Space), ("strings.asciiSpace", Rows.laid_strings_asciiSpace), ("mandrel/schema.ofOne", Rows.laid_mandrel_schema_ofOne)]

theorem gSpc : Tryz.prog.globalNamed "strings.asciiSpace" = some 1 := by kernel_rfl
theorem tSpc : (Tryz.prog.globals[1]?).map (·.type) = some 163 := by kernel_rfl
theorem cU8 : Tryz.prog.cellsOf 5 = 1 := by kernel_rfl

def aggL (d : DataW Unit) : List (DataW Unit) := match d with
  | .agg l => l
  | _ => []

def u8of (d : Option (DataW Unit)) : Option Int := match d with
  | some (.lit (.int .u8 n)) => some n
  | _ => none

theorem u8of_some {d : Option (DataW Unit)} {n : Int} (h : u8of d = some n) : d = some (.lit (.int .u8 n)) := by
  unfold u8of at h
  split at h
  · cases h
    rfl
  · cases h

theorem spc_all : ((List.range 256).all fun c => u8of (aggL Rows.laid_strings_asciiSpace)[c]? == some (if Lib.isSp (UInt8.ofNat c) then 1 else 0)) = true := by kernel_rfl

theorem spc_at (c : Nat) (hc : c < 256) : (aggL Rows.laid_strings_asciiSpace)[c]? = some (.lit (.int .u8 (if Lib.isSp (UInt8.ofNat c) then 1 else 0))) :=
  u8of_some (eq_of_beq (List.all_eq_true.1 spc_all c (List.mem_range.2 hc)))

set_option maxRecDepth 100000 in
theorem of_laidT {W : World} (h : laidMetH Tryz.prog laidT W) : Laid W ∧ SpTab W := by
  rw [MakeChecks.laidMetH_plain _ _ _ (by kernel_rfl)] at h
  obtain ⟨ps, ⟨ga, ta, csa, fa, pa, qa, hga, hta, hva, hda, ⟨gb, tb, csb, fb, pb, qb, hgb, htb, hvb, hdb, hrest, eb⟩, ea⟩, hnd, hcell⟩ := h
  constructor
  · refine of_laid ?_
    rw [MakeChecks.laidMetH_plain _ _ _ (by kernel_rfl)]
    refine ⟨qb, hrest, ?_, fun b off hm => hcell b off ?_⟩
    · rw [ea, eb] at hnd
      exact (List.nodup_append.1 (List.nodup_append.1 hnd).2.1).2.1
    · rw [ea, eb]
      exact List.mem_append_right _ (List.mem_append_right _ hm)
  · obtain rfl := Option.some.inj (gSpc.symm.trans hgb)
    obtain rfl := Option.some.inj (tSpc.symm.trans htb)
    obtain ⟨xs, m1, rfl, hx1, hlen, hn3, hel⟩ := DataW.trod_array Tryz.underlying163 hdb
    have hc := fun j => World.var?_cell hgb hvb j
    have e5 : aggL Rows.laid_strings_asciiSpace = xs.map (·.1) := by rw [(Prod.mk.inj hx1).1]; rfl
    intro i hi
    have hn := spc_at i hi
    rw [e5] at hn
    have h := hel i hi
    rw [cU8, Nat.mul_one] at h
    rw [List.getElem?_map] at hn
    cases hx : xs[i]? with
    | none => rw [hx] at hn; cases hn
    | some x =>
      rw [hx] at h hn
      obtain ⟨s, e1, e2, -⟩ := DataW.trod_int Tryz.underlying5 h
      rw [e2] at hn
      simp only [Option.map_some, Option.some.injEq, DataW.lit.injEq, Lit.int.injEq, true_and] at hn
      show W.cell? ⟨1, i, none⟩ = _
      rw [hc i, ← Array.getElem?_toList]
      have h3 : csb.toList[i]? = some (.int .u8 s) := by
        have h4 : (List.take 1 (List.drop i csb.toList))[0]? = some (.int .u8 s) := by rw [e1]; rfl
        simpa [List.getElem?_take, List.getElem?_drop] using h4
      rw [h3, ← hn]

end Go.Proofs.YtabddmiffcnnjaaGreatDoor
