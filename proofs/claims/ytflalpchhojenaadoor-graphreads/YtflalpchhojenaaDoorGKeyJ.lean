/- What Order, Check and Readers answer hangs on no place where lists lie. -/
import Derived.Test.YtflalpchhojenaaDoorPartE
import Derived.Test.YtflalpchhojenaaDoorGCopyGJ
namespace Go.Proofs.YtflalpchhojenaaDoor
open Go.RowKit


theorem map_key {α κ γ : Type} {k : α → κ} {F : α → γ} (hF : ∀ a b, k a = k b → F a = F b) : ∀ {xs ys : List α}, xs.map k = ys.map k → xs.map F = ys.map F
  | [], [], _ => rfl
  | [], y :: ys, h => by simp at h
  | x :: xs, [], h => by simp at h
  | x :: xs, y :: ys, h => by
    rw [List.map_cons, List.map_cons, List.cons.injEq] at h
    rw [List.map_cons, List.map_cons, hF x y h.1, map_key hF h.2]

/-- Two graphs that hold the same, wherever their lists lie. -/
structure SameG (cs : List Nc) (vin vout : List (Val × List Int)) (its : List (Nam × List Int × List Int)) (cs' : List Nc) (vin' vout' : List (Val × List Int)) (its' : List (Nam × List Int × List Int)) : Prop where
  nodes : cs'.map nkey = cs.map nkey
  ins : vin'.map vkey = vin.map vkey
  outs : vout'.map vkey = vout.map vkey
  inits : its'.map mkey = its.map mkey

theorem key_len {α κ : Type} {k : α → κ} {xs ys : List α} (h : xs.map k = ys.map k) : xs.length = ys.length := by
  have := congrArg List.length h
  simpa using this

theorem key_ins {cs cs' : List Nc} (h : cs'.map nkey = cs.map nkey) : cs'.map (·.ins) = cs.map (·.ins) := map_key (k := nkey) (fun _ _ e => congrArg (fun t => t.2.2.1) e) h

theorem key_out {cs cs' : List Nc} (h : cs'.map nkey = cs.map nkey) : (cs'.map (·.n)).map (·.out) = (cs.map (·.n)).map (·.out) := by
  rw [List.map_map, List.map_map]
  exact map_key (k := nkey) (fun _ _ e => congrArg (fun t => t.2.2.2.1) e) h

theorem key_nodE {cs cs' : List Nc} (h : cs'.map nkey = cs.map nkey) : cs'.map nodE = cs.map nodE := by
  refine map_key (k := nkey) (fun a b e => ?_) h
  have e1 := congrArg (fun t => t.1) e
  have e2 := congrArg (fun t => t.2.2.1) e
  have e3 := congrArg (fun t => t.2.2.2.1) e
  have e4 := congrArg (fun t => t.2.2.2.2.1) e
  have e5 := congrArg (fun t => t.2.2.2.2.2) e
  simp only [nkey] at e1 e2 e3 e4 e5
  unfold nodE
  rw [e1, e2, e3, e5]
  exact checkF_strip e4

theorem key_name {vs vs' : List (Val × List Int)} (h : vs'.map vkey = vs.map vkey) : (vs'.map (·.1)).map (·.name) = (vs.map (·.1)).map (·.name) := by
  rw [List.map_map, List.map_map]
  exact map_key (k := vkey) (fun _ _ e => congrArg (fun t => t.1) e) h

theorem key_valE {vs vs' : List (Val × List Int)} (h : vs'.map vkey = vs.map vkey) : vs'.map valE = vs.map valE := by
  refine map_key (k := vkey) (fun a b e => ?_) h
  have e1 := congrArg (fun t => t.2.1) e
  have e2 := congrArg (fun t => t.2.2) e
  simp only [vkey] at e1 e2
  unfold valE
  rw [e1, e2]

theorem key_namE {vs vs' : List (Nam × List Int × List Int)} (h : vs'.map mkey = vs.map mkey) : vs'.map namE = vs.map namE := by
  refine map_key (k := mkey) (fun a b e => ?_) h
  have e1 := congrArg (fun t => t.2.1) e
  have e2 := congrArg (fun t => t.2.2) e
  simp only [mkey] at e1 e2
  unfold namE
  rw [e1, e2]

theorem key_mname {vs vs' : List (Nam × List Int × List Int)} (h : vs'.map mkey = vs.map mkey) : (vs'.map (·.1)).map (·.name) = (vs.map (·.1)).map (·.name) := by
  rw [List.map_map, List.map_map]
  exact map_key (k := mkey) (fun _ _ e => congrArg (fun t => t.1) e) h

theorem at_ins {cs cs' : List Nc} (h : cs'.map (·.ins) = cs.map (·.ins)) (k : Nat) : (cs'[k]?.map (·.ins)).getD [] = (cs[k]?.map (·.ins)).getD [] := by
  rw [← List.getElem?_map, ← List.getElem?_map, h]

theorem linksN_same {cs cs' : List Nc} (h : cs'.map (·.ins) = cs.map (·.ins)) (l : List ByteArray) (k0 : Nat) : ∀ k, linksN cs' l k0 k = linksN cs l k0 k
  | 0 => by rw [linksN, linksN, key_len h]
  | k + 1 => by rw [linksN, linksN, linksN_same h l k0 k, at_ins h]

theorem readsN_same {cs cs' : List Nc} (h : cs'.map (·.ins) = cs.map (·.ins)) (x : ByteArray) : ∀ k, readsN cs' x k = readsN cs x k
  | 0 => rfl
  | k + 1 => by rw [readsN, readsN, readsN_same h x k, at_ins h]

theorem found_same {cs cs' : List Nc} (h : cs'.map (·.ins) = cs.map (·.ins)) (outs l : List ByteArray) : foundF cs' outs l = foundF cs outs l := by
  have e : ∀ c : List Nc, c.all (fun c => allF l c.ins) = (c.map (·.ins)).all (fun i => allF l i) := fun c => by rw [List.all_map]; rfl
  unfold foundF
  rw [e, e, h]

theorem SameG.vnames {cs : List Nc} {vin vout : List (Val × List Int)} {its : List (Nam × List Int × List Int)} {cs' : List Nc} {vin' vout' : List (Val × List Int)} {its' : List (Nam × List Int × List Int)} (h : SameG cs vin vout its cs' vin' vout' its') : vnames cs' vin' its' = vnames cs vin its := by
  unfold Go.Proofs.YtflalpchhojenaaDoor.vnames
  rw [key_name h.ins, key_mname h.inits, key_out h.nodes]

theorem SameG.onames {cs : List Nc} {vin vout : List (Val × List Int)} {its : List (Nam × List Int × List Int)} {cs' : List Nc} {vin' vout' : List (Val × List Int)} {its' : List (Nam × List Int × List Int)} (h : SameG cs vin vout its cs' vin' vout' its') : onames vout' = onames vout := key_name h.outs

theorem SameG.order {cs : List Nc} {vin vout : List (Val × List Int)} {its : List (Nam × List Int × List Int)} {cs' : List Nc} {vin' vout' : List (Val × List Int)} {its' : List (Nam × List Int × List Int)} (h : SameG cs vin vout its cs' vin' vout' its') : orderR cs' vin' vout' its' = orderR cs vin vout its := by
  have l1 := key_len h.nodes
  have l2 := key_len h.ins
  have l3 := key_len h.outs
  have l4 := key_len h.inits
  have p : partsF cs' vin' its' = partsF cs vin its := by
    unfold partsF
    rw [key_valE h.ins, key_namE h.inits, key_nodE h.nodes]
  have q : lineF cs' vin' its' = lineF cs vin its := by
    unfold lineF
    rw [h.vnames, l1, l2, l4, linksN_same (key_ins h.nodes)]
  unfold orderR
  rw [l1, l2, l3, l4, p, q, h.vnames, h.onames, found_same (key_ins h.nodes)]

theorem SameG.reads {cs : List Nc} {vin vout : List (Val × List Int)} {its : List (Nam × List Int × List Int)} {cs' : List Nc} {vin' vout' : List (Val × List Int)} {its' : List (Nam × List Int × List Int)} (h : SameG cs vin vout its cs' vin' vout' its') (x : ByteArray) : readsN cs' x cs'.length = readsN cs x cs.length := by
  rw [key_len h.nodes, readsN_same (key_ins h.nodes)]
end Go.Proofs.YtflalpchhojenaaDoor
