/- Bytes appended to a row: only that row, and what is new, is written. -/
import Derived.Test.YtoadpjegdhlphaaWWr
import Derived.Maps.AppendAt
namespace Go.Proofs.Ytoadpjegdhlphaa
open Go.RowKit

/-- Of what was there only the row of v is written; v' lies there, or in what is new. -/
def RowK (w w' : World) (v v' : Value) : Prop := w.grownBy w' v.ownBlock ∧ (v'.ownBlock = v.ownBlock ∨ ∃ g, v'.ownBlock = some g ∧ w.heap.size ≤ g)

theorem RowK.refl (w : World) (v : Value) : RowK w w v v := ⟨World.grownBy.refl _ _, .inl rfl⟩
theorem RowK.new (w : World) (o : Obj) (v : Value) : RowK w (w.alloc o) v v := ⟨World.grownBy_alloc w o _, .inl rfl⟩
theorem RowK.more {w w' : World} (h : w.grownBy w' none) (v : Value) : RowK w w' v v := ⟨row_of_none _ h, .inl rfl⟩
theorem RowK.trans {a b c : World} {u v x : Value} (h : RowK a b u v) (k : RowK b c v x) : RowK a c u x := by
  obtain ⟨h1, h2⟩ := h
  obtain ⟨k1, k2⟩ := k
  refine ⟨⟨k1.os.trans h1.os, k1.tape.trans h1.tape, k1.output.trans h1.output, Nat.le_trans h1.size k1.size, fun i hi hne => ?_⟩, ?_⟩
  · refine (k1.block i (Nat.lt_of_lt_of_le hi h1.size) (fun e => ?_)).trans (h1.block i hi hne)
    rcases h2 with h2 | ⟨g, h2, hg⟩
    · exact hne (e.trans h2)
    · rw [h2] at e; cases e; omega
  · rcases k2 with k2 | ⟨g, k2, hg⟩
    · rcases h2 with h2 | ⟨g, h2, hg⟩
      · exact .inl (k2.trans h2)
      · exact .inr ⟨g, k2.trans h2, hg⟩
    · exact .inr ⟨g, k2, Nat.le_trans h1.size hg⟩

theorem RowK.below {α : Type} {te : TypeId} {size : Nat} {f : α → List Value} {w w' : World} {base : Nat} {v v' : Value} {xs : List α} (h : RowK w w' v v') (ho : OwnsL te size f w base v xs) (hb : base ≤ w.heap.size) : Below base w w' := below_own ho hb h.1

/-- append(l, x), in a plain region; and where the new list lies. -/
theorem wpList_pushK {α : Type} {ops : Array Oper} {rest : List Oper} {o : Oper} {a : Act} {w : World} {Q : Exit → Act → World → Prop} (hgd : o.guard = none) (s x : Operand) (t te : TypeId) (size bytes : Nat) (z : Value) (i0 : TypeInfo) (f : α → List Value)
    (ho : o.op = .call { callee := .builtin .append, args := #[s, x], argTypes := #[t, t] }) (ht : Try.prog.underlying t = some (.slice te)) (hi : Try.prog.info? te = some i0) (hz : i0.zero = some z)
    (hsize : i0.size = size) (hby : i0.bytes = bytes) (hzs : z.cells.size = size) (hsz : 0 < size) (base : Nat) (v : Value) (xs : List α) (hs : a.eval s = v) (hown : OwnsL te size f w base v xs)
    (B c : Nat) (y : α) (cs : Array Value) (hx : a.eval x = .slice (some ⟨B, 0, none⟩) 1 c) (hB : w.heap[B]? = some (.cells cs te (0, 0))) (hcs : cs.toList = f y) (hl : (f y).length = size) (h1 : ∀ u ∈ f y, u.oneCell' = true)
    (hbytes : (xs.length + 1) * bytes ≤ 140737488355328) (h63 : xs.length + 1 ≤ maxLen) (hbase : base ≤ w.heap.size)
    (h : ∀ v' w', OwnsL te size f w' base v' (xs ++ [y]) → RowK w w' v v' → wpList Try.prog ops Q rest (a.put o.dst v') w') : wpList Try.prog ops Q (o :: rest) a w := by
  refine wpList_append_own_at w hgd s x t ho base te i0 z size bytes ht hi hz hsize hby hzs hsz v _ _ hs hown ⟨B, 0, none⟩ 1 c (f y) hx (by omega) ?_ h1 h63 hbytes hbase ?_
  · intro j u hu
    rw [Addr.add_lit, cell_of_row _ _ _ _ _ (0, 0) hB]
    rw [← hcs] at hu
    simpa using hu
  · intro v' w' ho' hg _ hat
    refine h v' w' ?_ ⟨hg, hat.imp id fun e => ⟨_, e, Nat.le_refl _⟩⟩
    unfold OwnsL
    simpa [List.flatMap_append] using ho'

set_option maxRecDepth 100000 in
set_option maxHeartbeats 3200000 in
theorem appendVarintK_any (v0 : Value) (xs0 : List Nat) (u : Nat) (base : Nat) (w : World) (h : OwnsB w base v0 xs0) (hb : base ≤ w.heap.size) (hu : u < 18446744073709551616) (hl : xs0.length ≤ 1099511627776) :
    Calls Try.prog 23 #[v0, .int .u64 u] w fun e w' => ∃ v', e = .returned v' ∧ OwnsB w' base v' (xs0 ++ vb u) ∧ RowK w w' v0 v' := by
  obtain ⟨i0, hi, hz0, hz1, hz2⟩ := info_parts infoByte
  obtain ⟨ao0, cap0, rfl⟩ := h.form
  go_enter Try.func23, Try.ntmps23
  go_wp2
  go_loopg [0, 1] 10 (fun f b x wr => ∃ v U xs, b = v ∧ x = .int .u64 (U : Nat) ∧ U < 18446744073709551616 ∧ VI xs0 u f U xs ∧ OwnsB wr base v xs ∧ RowK w wr (.slice ao0 xs0.length cap0) v)
  case atStart => exact ⟨_, u, xs0, rfl, rfl, hu, VI.start _ _ hu, h, RowK.refl _ _⟩
  case round =>
    obtain ⟨v, U, xs, rfl, rfl, hU, hvi, hown, hrk⟩ := hrel
    have hsz := hrk.1.size
    have HR := hide hrk
    clear hrk
    obtain ⟨ao, cap, rfl⟩ := hown.form
    have HV := hide hvi
    have HO := hide hown
    have hlen := hvi.len
    clear hvi hown h
    by_cases hsm : U < 128
    · go_wp2_with (at_builtin; refine wpList_pushK rfl (.tmp 15) (.tmp 18) 48 5 1 1 _ i0 bcells rfl Try.underlying48 hi hz0 hz1 hz2 rfl (by decide) base _ xs rfl (by exact HO.out.more (grown_new wr _)) wr.heap.size 1 U _ rfl (by exact heap_at _ _ _ rfl) rfl rfl (bcells_one U) (by omega) (by simp only [maxLen]; omega) (by simp; omega) ?_; intro v' w5 hown5 hrk5)
      go_ret
      exact ⟨_, rfl, by rw [HV.out.done hsm]; exact hown5, HR.out.trans ((RowK.new wr _ _).trans hrk5)⟩
    · have hm : bits .or .u8 ((U : Int) % 256) 128 = (U : Int) % 128 + 128 := by
        have h1 := or128 (U % 256) (by omega)
        have e : U % 256 % 128 = U % 128 := by omega
        rw [e] at h1
        simpa using h1
      go_wp2_with (at_builtin; refine wpList_pushK rfl (.tmp 7) (.tmp 11) 48 5 1 1 _ i0 bcells rfl Try.underlying48 hi hz0 hz1 hz2 rfl (by decide) base _ xs rfl (by exact HO.out.more (grown_new wr _)) wr.heap.size 1 (U % 128 + 128) _ rfl (by exact heap_at _ _ _ rfl) (by simp [bcells]) rfl (bcells_one _) (by omega) (by simp only [maxLen]; omega) (by simp; omega) ?_; intro v' w5 hown5 hrk5)
      have hp := HV.out.pos hsm
      go_roundg (gk - 1)
      case measure => omega
      case rel => exact ⟨v', U / 128, _, rfl, by simp, by omega, HV.out.next hsm, hown5, HR.out.trans ((RowK.new wr _ _).trans hrk5)⟩

set_option maxRecDepth 100000 in
set_option maxHeartbeats 3200000 in
theorem appendFixedK_any (v0 : Value) (xs0 : List Nat) (u n : Nat) (base : Nat) (w : World) (h : OwnsB w base v0 xs0) (hb : base ≤ w.heap.size) (hn : n ≤ 8) (hl : xs0.length ≤ 1099511627776) :
    Calls Try.prog 42 #[v0, .int .u64 u, .int .i64 n] w fun e w' => ∃ v', e = .returned v' ∧ OwnsB w' base v' (xs0 ++ lo u n) ∧ RowK w w' v0 v' := by
  obtain ⟨i0, hi, hz0, hz1, hz2⟩ := info_parts infoByte
  obtain ⟨ao0, cap0, rfl⟩ := h.form
  go_enter Try.func42, Try.ntmps42
  go_wp2
  go_loopg [0, 9] n (fun f b i wr => ∃ k v xs, f = n - k ∧ k ≤ n ∧ b = v ∧ i = .int .i64 (k : Nat) ∧ xs.length = xs0.length + k ∧ xs0 ++ lo u n = xs ++ lo (u / 256 ^ k) (n - k) ∧ OwnsB wr base v xs ∧ RowK w wr (.slice ao0 xs0.length cap0) v)
  case atStart => exact ⟨0, _, xs0, rfl, Nat.zero_le _, rfl, rfl, rfl, by simp, h, RowK.refl _ _⟩
  case round =>
    obtain ⟨k, v, xs, rfl, hk, rfl, rfl, hlen, heq, hown, hrk⟩ := hrel
    have hsz := hrk.1.size
    have HR := hide hrk
    clear hrk
    obtain ⟨ao, cap, rfl⟩ := hown.form
    have HE := hide heq
    have HO := hide hown
    have HL := hide hlen
    have hl2 : xs.length ≤ xs0.length + 8 := by omega
    clear heq hown h hlen
    by_cases hlt : k < n
    · go_wp2_with (at_builtin; refine wpList_pushK rfl (.tmp 12) (.tmp 18) 48 5 1 1 _ i0 bcells rfl Try.underlying48 hi hz0 hz1 hz2 rfl (by decide) base _ xs rfl (by exact HO.out.more (grown_new wr _)) wr.heap.size 1 (u / 256 ^ k % 256) _ rfl (by exact heap_at _ _ _ rfl) (by rw [shr_byte u k]; rfl) rfl (bcells_one _) (by omega) (by simp only [maxLen]; omega) (by simp; omega) ?_; intro v' w5 hown5 hrk5)
      go_roundg (n - (k + 1))
      case measure => omega
      case rel => exact ⟨k + 1, v', _, rfl, by omega, rfl, by go_num, by simp [HL.out]; omega, by rw [HE.out, lo_next u k n hlt]; simp, hown5, HR.out.trans ((RowK.new wr _ _).trans hrk5)⟩
    · obtain rfl : k = n := by omega
      go_wp2
      go_ret
      refine ⟨_, rfl, ?_, HR.out⟩
      rw [HE.out]
      simpa [lo] using HO.out

end Go.Proofs.Ytoadpjegdhlphaa
