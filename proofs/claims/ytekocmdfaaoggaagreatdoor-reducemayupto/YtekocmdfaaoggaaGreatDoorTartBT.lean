/- A part. -/
import Derived.Test.YtekocmdfaaoggaaGreatDoorTartBQ
import Derived.Test.YtekocmdfaaoggaaGreatDoorTartBR
import Derived.Test.YtekocmdfaaoggaaGreatDoorTartBH
import Derived.Test.YtekocmdfaaoggaaGreatDoorTartAV
import Derived.Test.YtekocmdfaaoggaaGreatDoorTartBS
set_option maxHeartbeats 16000000
set_option maxRecDepth 100000
namespace Go.Proofs.YtekocmdfaaoggaaGreatDoor
open Go.RowKit
theorem jny (n:Nod) (ins:List ByteArray) (A:At) (u:Sl) (ps:List (Ten×Tq)) (w:World) (hl:Laid w) (hn:NodeAll w n ins A) (_hf:A.xs.length≤1048576) (_hi:ins.length≤1048576) (hv:TensIn w u.v ps) (_hvl:ps.length≤1048576) :
    Calls Tryz.prog 3 #[jax n,.slice u.a u.n u.c] w fun e w'=>e=.returned (.bool true)∧Below w.heap.size w w':=by
     have LV:=jac (fun (wx:World) (hx:w.grownBy wx none)=>jkT wx (hl.more hx));have OO:=jac (fun (wx:World) (hx:w.grownBy wx none)=>fun (h6:ps.length≤6)=>jpk n ins A u ps wx (hl.more hx) (hn.more hx) (hv.more hx) (by omega));have SM:=jac (fun (wx:World) (hx:w.grownBy wx none)=>jiX u _ wx (hv.more hx));obtain ⟨R0,hR0⟩ : ∃ R0,R0=jcQ ps (jkX n ins A (ps.map tvY)):=⟨_,rfl⟩
     rw [← hR0] at OO;clear hR0;obtain ⟨w0,hw0⟩ : ∃ w0,w0=w.alloc (.cells #[.string n.op,.string n.name,.slice n.iv.a n.iv.n n.iv.c,.string n.out,.slice n.av.a n.av.n n.av.c] 25):=⟨_,rfl⟩
     have g0:Hid (w.grownBy w0 none):=by show w.grownBy w0 none;rw [hw0];exact jab _ _
     have hb0:=heap_alloc_new w (.cells #[.string n.op,.string n.name,.slice n.iv.a n.iv.n n.iv.c,.string n.out,.slice n.av.a n.av.n n.av.c] 25);rw [← hw0] at hb0;have BX:Hid (∀ wx,w0.grownBy wx none→wx.heap[w.heap.size]?=some (.cells #[.string n.op,.string n.name,.slice n.iv.a n.iv.n n.iv.c,.string n.out,.slice n.av.a n.av.n n.av.c] 25 (0,0))):=fun wx hg=>jaf hb0 hg;clear hb0 hl hn hv;have SA:=jac (fun (wx:World)=>jeh 0 (.slice none 0 0) (.slice none 0 0) (.slice none 0 0) (.slice none 0 0) [] [] wx (jbj wx 0).ints (jbj wx 0).ints (jbj wx 0).ints (jbj wx 0).ints);obtain ⟨ua,un,uc⟩:=u;obtain ⟨op,nam,⟨ia,il,ic⟩,out,⟨ao,al,cap⟩⟩:=n;unfold jax at OO ⊢;simp only at OO SM BX hw0 ⊢;have S1:=jac (SM.out w0 g0.out);clear SM;go_enter Tryz.func3,Tryz.ntmps3;go_wp2_with fail;rw [← hw0];clear hw0;refine S1.out.mono ?_;rintro e w1 ⟨bs,rfl,h6,hgs⟩;have G1:=jac (jaa g0.out hgs);obtain ⟨n0,n1,n2,n3,n4⟩:=jai (n:=⟨op,nam,⟨ia,il,ic⟩,out,⟨ao,al,cap⟩⟩) (BX.out w1 hgs);simp only at n0 n1 n2 n3 n4;clear hgs S1
     cases bs with
     | false =>
      clear h6;go_wp2_with fail;refine (LV.out w1 G1.out).mono ?_;rintro e w2 ⟨rfl,hg2⟩;go_wp2;go_ret;exact ⟨rfl,jdy (jaa G1.out hg2)⟩
     | true =>
      have O1:=jac (OO.out w1 G1.out (h6 rfl));clear OO h6;go_wp2_with fail;refine O1.out.mono ?_;rintro e v1 ⟨hg1,hq⟩;have V1:=jac (jaa G1.out hg1);clear hg1 O1 n0 n1 n2 n3 n4
      rcases hq with ⟨c,hc,rfl⟩ | ⟨⟨ty,⟨da,dn,dc⟩,⟨ta,tn,tc⟩⟩,l,zs,-,rfl,hk,hd,ht⟩
      ·have hb:(c != 0)=true:=by simpa using hc
       clear hc;obtain ⟨W1,hW1⟩ : ∃ W1,W1=v1.alloc (.cells #[.int .i64 0,.slice none 0 0,.slice none 0 0] 32):=⟨_,rfl⟩
       have W1G:Hid (w.grownBy W1 none):=by show w.grownBy W1 none;rw [hW1];exact jaa V1.out (jab _ _)
       have GB1:=heap_alloc_new v1 (.cells #[.int .i64 0,.slice none 0 0,.slice none 0 0] 32);rw [← hW1] at GB1;have a0:=(cell_of_row _ _ 0 _ _ (0,0) GB1).trans rfl;have a1:=(cell_of_row _ _ 1 _ _ (0,0) GB1).trans rfl;have a2:=(cell_of_row _ _ 2 _ _ (0,0) GB1).trans rfl;clear GB1;go_wp2_with (first | (go_at_call 7;refine (SA.out _).mono ?_;rintro e w5 ⟨rfl,hg5⟩) | fail)
       have G5:Hid (w.grownBy w5 none):=by
        show w.grownBy w5 none
        first
         | exact jaa W1G.out hg5
         | (rw [← hW1] at hg5;exact jaa W1G.out hg5)
       clear hg5;refine (LV.out w5 G5.out).mono ?_;rintro e w6 ⟨rfl,hg6⟩;go_wp2;go_ret;exact ⟨rfl,jdy (jaa G5.out hg6)⟩
      ·unfold jqF;simp only at hk hd ht ⊢
       have RC:Hid (∀ wx,v1.grownBy wx none→Calls Tryz.prog 8 #[.agg #[.int .i64 ty,.slice da dn dc,.slice ta tn tc]] wx fun e w'=>e=.returned (.int .i64 0)∧wx.grownBy w' none):=fun wx hx=>by
        have h:=jh3 ty (.slice da dn dc) (.slice ta tn tc) l zs wx (hd.ints.more hx) (ht.ints.more hx);rw [show pbE ty l zs=0 from hk] at h;exact h
       clear hk hd ht;obtain ⟨W1,hW1⟩ : ∃ W1,W1=v1.alloc (.cells #[.int .i64 ty,.slice da dn dc,.slice ta tn tc] 32):=⟨_,rfl⟩
       have W1G:Hid (v1.grownBy W1 none):=by show v1.grownBy W1 none;rw [hW1];exact jab _ _
       go_wp2_with (first | (go_at_call 8;refine (RC.out _ (by first | exact W1G.out | exact jab _ _)).mono ?_;rintro e w5 ⟨rfl,hg5⟩) | fail)
       have G5:Hid (w.grownBy w5 none):=by
        show w.grownBy w5 none
        first
         | exact jaa V1.out (jaa W1G.out hg5)
         | (rw [← hW1] at hg5;exact jaa V1.out (jaa W1G.out hg5))
       clear hg5;refine (LV.out w5 G5.out).mono ?_;rintro e w6 ⟨rfl,hg6⟩;go_wp2;go_ret;exact ⟨rfl,jdy (jaa G5.out hg6)⟩
end Go.Proofs.YtekocmdfaaoggaaGreatDoor
