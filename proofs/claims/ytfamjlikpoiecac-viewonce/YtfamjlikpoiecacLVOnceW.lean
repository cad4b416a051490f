/- ViewOnce, by the walk. -/
import Derived.Test.YtfamjlikpoiecacVPerm
import Derived.Test.YtfamjlikpoiecacSSame
import Derived.Deep.RegionWith
namespace Go.Proofs.Ytfamjlikpoiecac
open Go.RowKit

theorem infoBool : (Try.prog.info? 4).map (fun i => (i.zero, i.size, i.bytes)) = some (some (.bool false), 1, 1) := by kernel_rfl

theorem turned_cases {off : Int} {ds ss perm : List Int} {E off' : Int} {ds' ss' : List Int} (h : Turned off ds ss perm E off' ds' ss') (hE : E = 0) : IsPerm perm ds.length ∧ off' = off ∧ ds' = pickL ds perm ∧ ss' = pickL ss perm := by
  rcases h with ⟨_, h, _⟩ | ⟨_, _, h, _⟩ | ⟨_, h1, _, h2, h3, h4⟩
  · rw [h] at hE; cases hE
  · rw [h] at hE; cases hE
  · exact ⟨h1, h2, h3, h4⟩

theorem made_falses (n : Nat) : (madeCells (Value.bool false).cells (n * 1)).toList = List.replicate n (Value.bool false) := by
  rw [Nat.mul_one, show (Value.bool false).cells = #[Value.bool false] from rfl, toList_madeCells_one]

/-- The marks: which numbers have been met among the first k. -/
def marks (l : List Int) (n k : Nat) : List Value := (List.range n).map (fun (j : Nat) => Value.bool (decide ((j : Int) ∈ l.take k)))

theorem marks_zero (l : List Int) (n : Nat) : marks l n 0 = List.replicate n (Value.bool false) := by
  refine List.ext_getElem (by simp [marks]) fun i h1 h2 => ?_
  simp [marks]

theorem marks_at (l : List Int) {n j : Nat} (k : Nat) (hj : j < n) : (marks l n k)[j]? = some (Value.bool (decide ((j : Int) ∈ l.take k))) := by simp [marks, hj]

theorem marks_step {l : List Int} {n k x : Nat} (hs : l.take (k + 1) = l.take k ++ [(x : Int)]) : (marks l n k).set x (.bool true) = marks l n (k + 1) := by
  refine List.ext_getElem? fun i => ?_
  by_cases hi : i < n
  · rw [marks_at l (k + 1) hi, List.getElem?_set, marks_at l k hi, hs]
    by_cases e : x = i
    · subst e
      simp [marks, hi]
    · rw [if_neg e]
      have : ¬ (i : Int) = (x : Int) := by omega
      simp [this]
  · rw [List.getElem?_eq_none (by simp [marks]; omega), List.getElem?_eq_none (by simp [marks]; omega)]

set_option maxHeartbeats 6400000 in
theorem once_walk (dv : Value) (ds : List Int) (pv : Value) (perm : List Int) (w : World) (hd : IsInts w dv ds) (hp : IsInts w pv perm) :
    Calls Try.prog 5 #[dv, pv] w fun e w' => e = .returned (.bool true) ∧ Below w.heap.size w w' := by
  obtain ⟨i0, hi, hz0, hz1, hz2⟩ := info_parts infoBool
  have HD := hide hd
  have HP := hide hp
  have C0 := hide (refcount_any dv ds w hd)
  clear hd hp
  by_cases hE : cntE ds = 0
  · have HF := hide (fine_of hE)
    rw [hE, HF.out.cnt] at C0
    have hpp := HF.out.prod_pos
    by_cases hbig : 2000 < prod ds
    · obtain ⟨M, hM⟩ : ∃ M, M = prod ds := ⟨_, rfl⟩
      rw [← hM] at C0 hbig
      clear hE hM hpp
      go_enter Try.func5, Try.ntmps5
      go_wp2_with fail
      refine C0.out.mono ?_
      rintro e w' ⟨rfl, rfl⟩
      go_wp2_with fail
      refine (vlive_any _).mono ?_
      rintro e w2 ⟨rfl, hg2⟩
      go_wp2
      go_ret
      exact ⟨rfl, grown_below hg2⟩
    · have C1 := hide (whole_any dv ds w HD.out)
      rw [hE, show rowDs ds = ds by simp [rowDs, hE], show strdE ds = strd ds by simp [strdE, hE]] at C1
      obtain ⟨N, hN⟩ : ∃ N : Nat, prod ds = N := ⟨(prod ds).toNat, by omega⟩
      have TW := hide (fun h => turned_whole (perm := perm) HF.out h)
      rw [hN, Int.toNat_natCast] at TW
      rw [hN] at C0
      have hN2 : N ≤ 2000 := by omega
      have hb2 : i0.bytes * N ≤ 281474976710656 := by rw [hz2]; omega
      have hb3 : N ≤ maxLen := by simp only [maxLen]; omega
      clear hE hbig hpp hN
      go_enter Try.func5, Try.ntmps5
      go_wp2_with fail
      refine C0.out.mono ?_
      rintro e w' ⟨rfl, rfl⟩
      go_wp2_with fail
      refine C1.out.mono ?_
      rintro e w1 ⟨v, rfl, own, hg1⟩
      have VW := hide own.view
      obtain ⟨d, s, rfl, od, oss, -, -, -⟩ := own
      obtain ⟨da, dc, rfl, -, -, -, -, -, -⟩ := od.ints
      obtain ⟨sa, sc, rfl, -, -, -, -, -, -⟩ := oss.ints
      clear od oss
      go_wp2_with fail
      refine Calls.mono (transpose_any _ _ 0 ds (strd ds) perm _ (VW.out.more ?ga) (HP.out.more ?gb)) ?_
      case ga => exact grown_new _ _
      case gb => exact grown_trans hg1 (grown_new _ _)
      rintro e w2 ⟨x, E, off', ds', ss', rfl, hr, ox, hg2⟩
      have g02 := grown_trans hg1 (grown_trans (grown_new _ _) hg2)
      have VX := hide ox.view
      obtain ⟨d2, s2, rfl, od2, os2, -, -, -⟩ := ox
      obtain ⟨da2, dc2, rfl, -, -, -, -, -, -⟩ := od2.ints
      obtain ⟨sa2, sc2, rfl, -, -, -, -, -, -⟩ := os2.ints
      clear od2 os2 hg2
      by_cases hE7 : E = 0
      · obtain ⟨hPm, rfl, rfl, rfl⟩ := turned_cases hr hE7
        subst hE7
        obtain ⟨hmay, hrE, hrP⟩ := TW.out hPm
        obtain ⟨L, hL⟩ : ∃ L, L = rdL 0 (pickL ds perm) (pickL (strd ds) perm) (iota 0 N) := ⟨_, rfl⟩
        rw [← hL] at hrP
        have HLE := hide hrE
        have HLL := hide hL
        have hlen : L.length = N := by rw [hrP.length_eq, iota_length]
        have HND : Hid (L.Nodup) := hrP.nodup_iff.2 (iota_nodup 0 N)
        have HIN : Hid (∀ x ∈ L, 0 ≤ x ∧ x < N) := fun x hx => by have := mem_iota.1 (hrP.mem_iff.1 hx); omega
        have hl1 : ((L.length : Int) != (N : Int)) = false := by simp [hlen]
        have hl2 : L.length ≤ N := by omega
        have hl3 : N ≤ L.length := by omega
        obtain ⟨DS, hDS⟩ : ∃ DS, DS = pickL ds perm := ⟨_, rfl⟩
        obtain ⟨SS, hSS⟩ : ∃ SS, SS = pickL (strd ds) perm := ⟨_, rfl⟩
        rw [← hDS, ← hSS] at VX HLE HLL
        rw [← hDS, ← hSS]
        obtain ⟨w3, hw3⟩ : ∃ w3, w3 = w2.alloc (.cells #[.int .i64 0, .slice da2 DS.length dc2, .slice sa2 SS.length sc2] 24) := ⟨_, rfl⟩
        have hg3 : w2.grownBy w3 none := by rw [hw3]; exact grown_new _ _
        have bX : Hid (∀ wx, w3.grownBy wx none → wx.heap[w2.heap.size]? = some (.cells #[.int .i64 0, .slice da2 DS.length dc2, .slice sa2 SS.length sc2] 24 (0, 0))) := fun wx hx => box_kept (by rw [hw3]; exact heap_alloc_new w2 _) hx
        have RD2 : Hid (∀ wx u, w2.grownBy wx none → IsInts wx u (iota 0 N) → Calls Try.prog 10 #[.agg #[.int .i64 0, .slice da2 DS.length dc2, .slice sa2 SS.length sc2], u] wx fun e w' => ∃ r, e = .returned (.tuple #[r, .int .i64 0]) ∧ Owns64 w' wx.heap.size r L ∧ wx.grownBy w' none) := fun wx u hx hu => by
          have := read_any 0 DS SS (iota 0 N) _ u wx (VX.out.more hx) hu
          rw [HLE.out, ← HLL.out] at this
          exact this
        have NB := hide (fun wx => numbers_any N (by omega) wx)
        clear hr hmay hrE hrP hL hlen hDS hSS hPm
        go_wp2
        rw [← hw3]
        clear hw3
        obtain ⟨q0, q1, q2, -, -, -⟩ := box_cells (bX.out w3 (grown_refl _))
        have gd := grown_drew (grown_refl w3)
        go_region_with (first | (go_at_call 11; refine (NB.out _).mono ?_; rintro e w9 ⟨u3, rfl, ou3, hg9⟩; have g39 := grown_trans gd hg9; obtain ⟨q0, q1, q2, -, -, -⟩ := box_cells (bX.out w9 g39); obtain ⟨ua3, uc3, rfl, -, -, -, -, -, -⟩ := ou3.ints) | (go_at_call 10; refine (RD2.out _ _ (by exact grown_trans hg3 g39) (by exact ou3.ints)).mono ?_; rintro e w4 ⟨m, rfl, om, hg4⟩; have g34 := grown_trans g39 hg4; obtain ⟨ma, mc, rfl, hm1, hm2, hm3, -, -, -⟩ := om.ints))
        all_goals
          have OM := hide om.ints
          have g04 := grown_trans g02 (grown_trans hg3 g34)
          clear om ou3
          go_wp2_with (refine wpList_make_full _ rfl (.tmp 64) (.tmp 64) 40 rfl w4.heap.size 4 i0 (.bool false) 1 Try.underlying40 hi hz0 hz1 .i64 .i64 _ _ N rfl rfl rfl rfl hb2 hb3 (Nat.le_refl _) ?_; intro w5 hown hg5)
          rw [made_falses, ← marks_zero L] at hown
          go_loopw [14] (fun i wr => w4.grownBy wr none ∧ ∃ k : Nat, k ≤ N ∧ i = .int .i64 k ∧ wr.ownsRow w4.heap.size 4 1 (.slice (some ⟨w4.heap.size, 0, none⟩) N N) N (marks L N k)) (fun i _ => N - (intOf i).toNat)
          case atStart => exact ⟨hg5, 0, Nat.zero_le _, rfl, hown⟩
          case round =>
            clear hown hg5
            obtain ⟨hw, k, hk, rfl, hown⟩ := hrel
            by_cases hkl : k < N
            · have hkL : k < L.length := by omega
              obtain ⟨mb, mo, hmo⟩ := addr_of OM.out (by omega)
              subst hmo
              have hcx := item_at (OM.out.more hw) hkL
              have hmem : L.getD k 0 ∈ L := by rw [List.getD, List.getElem?_eq_getElem hkL]; simp
              have hrng := HIN.out _ hmem
              have hst := take_step L k hkL
              obtain ⟨xn, hxn⟩ : ∃ xn : Nat, L.getD k 0 = xn := ⟨(L.getD k 0).toNat, by omega⟩
              rw [hxn] at hcx hrng hst
              have hnot : (xn : Int) ∉ L.take k := by
                intro hin
                have h1 := HND.out.sublist (List.take_sublist (k + 1) L)
                rw [hst, List.nodup_append] at h1
                exact absurd rfl (h1.2.2 _ hin _ (by simp))
              have hx2 : xn < N := by omega
              have hcm := hown.cellAt xn (by omega)
              rw [marks_at L k hx2, decide_eq_false hnot] at hcm
              have hfm := hown.frozenAt xn
              have hst2 := hown.stored xn (.bool true)
              rw [marks_step hst] at hst2
              have HO := hide hst2.1
              have HG := hide (grown_trans_row hw hst2.2 (fun r e => by cases e; exact Nat.le_refl _))
              clear hown hst2 hnot hst hmem hxn
              go_wp2
              go_roundw
              case rel => exact ⟨HG.out, k + 1, by omega, by go_num, HO.out⟩
              case measure => simp [intOf]; omega
            · clear hown
              go_wp2_with fail
              refine (vlive_any _).mono ?_
              rintro e w8 ⟨rfl, hg8⟩
              go_wp2
              go_ret
              exact ⟨rfl, grown_below (grown_trans g04 (grown_trans hw hg8))⟩
      · have hE8 := beq_zero_false hE7
        have hE9 : (E != 0) = true := by simp [bne, hE8]
        clear hE7 hr
        go_wp2_with fail
        refine (vlive_any _).mono ?_
        rintro e w8 ⟨rfl, hg8⟩
        go_wp2
        go_ret
        exact ⟨rfl, grown_below (grown_trans g02 (grown_trans (grown_new _ _) hg8))⟩
  · have hE' := beq_zero_false hE
    obtain ⟨E, hEE⟩ : ∃ E, E = cntE ds := ⟨_, rfl⟩
    rw [← hEE] at hE' C0
    have hE2 : (E != 0) = true := by simp [bne, hE']
    clear hE hEE
    go_enter Try.func5, Try.ntmps5
    go_wp2_with fail
    refine C0.out.mono ?_
    rintro e w' ⟨rfl, rfl⟩
    go_wp2_with fail
    refine (vlive_any _).mono ?_
    rintro e w2 ⟨rfl, hg2⟩
    go_wp2
    go_ret
    exact ⟨rfl, grown_below hg2⟩
end Go.Proofs.Ytfamjlikpoiecac
