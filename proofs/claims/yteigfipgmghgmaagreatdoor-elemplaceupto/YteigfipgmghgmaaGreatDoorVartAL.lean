/- A part. -/
import Derived.Test.YteigfipgmghgmaaGreatDoorVartAF
set_option maxHeartbeats 6400000
set_option maxRecDepth 100000
namespace Go.Proofs.YteigfipgmghgmaaGreatDoor
open Go.RowKit
theorem jhy (w:World) (hl:Laid w) :
    Calls Tryz.prog 98 #[.string ⟨#[73,100,101,110,116,105,116,121]⟩] w fun e w'=>ja5 (some (1,1,[jat])) w' e∧w.grownBy w' none:=by
     have e1:jaw ⟨#[73,100,101,110,116,105,116,121]⟩=true:=by simp only [jaw,jaj];rfl
     obtain ⟨w0,hw0⟩ : ∃ w0,w0=w.alloc (.cells #[.int .i64 0,.int .i64 0,.slice none 0 0] 134):=⟨_,rfl⟩
     have g0:w.grownBy w0 none:=by rw [hw0];exact jab _ _
     have b0:=heap_alloc_new w (.cells #[.int .i64 0,.int .i64 0,.slice none 0 0] 134);rw [← hw0] at b0;have B0:=jac b0;have OO:=jac (jar ⟨#[73,100,101,110,116,105,116,121]⟩ w0 (hl.more g0));rw [e1] at OO;clear hl b0 e1;go_enter Tryz.func98,Tryz.ntmps98;go_wp2_with fail;rw [← hw0];clear hw0;refine OO.out.mono ?_;rintro e v0 ⟨rfl,h0⟩;go_wp2_with fail;refine (jau _ _ _ [] _ (Or.inl ⟨rfl,rfl⟩) (by decide)).mono ?_;rintro e w6 ⟨⟨a,n,c,rfl,ho,hat⟩,hg6⟩;have hlt:=(Array.getElem?_eq_some_iff.1 B0.out).1;have hsk:=h0.size
     have hne:(Value.slice a n c).ownBlock≠some w.heap.size:=fun hh=>by
      rcases hat _ hh with h | h
      ·cases h
      ·omega
     obtain ⟨b6,hX,hO,gX⟩:=jax (lo:=1) (hi:=1) g0 B0.out h0 (jad _) hg6 (fun g e=>by cases e) ho hne;obtain ⟨r0,r1,r2,f0,f1,f2⟩:=jam b6;have HX:=jac hX;have HO:=jac hO;have GX:=jac gX;clear hX hO gX b6 ho hg6 hne hat hlt hsk;go_wp2;refine bodyPost_ret (jas rfl _ _ w.heap.size rfl HX.out) rfl ?_;exact ⟨⟨_,_,_,rfl,HO.out⟩,GX.out⟩
theorem jqf (w:World) (hl:Laid w) :
    Calls Tryz.prog 98 #[.string ⟨#[78,101,103]⟩] w fun e w'=>ja5 (some (1,1,[jat])) w' e∧w.grownBy w' none:=by
     have e1:jaw ⟨#[78,101,103]⟩=true:=by simp only [jaw,jaj];rfl
     obtain ⟨w0,hw0⟩ : ∃ w0,w0=w.alloc (.cells #[.int .i64 0,.int .i64 0,.slice none 0 0] 134):=⟨_,rfl⟩
     have g0:w.grownBy w0 none:=by rw [hw0];exact jab _ _
     have b0:=heap_alloc_new w (.cells #[.int .i64 0,.int .i64 0,.slice none 0 0] 134);rw [← hw0] at b0;have B0:=jac b0;have OO:=jac (jar ⟨#[78,101,103]⟩ w0 (hl.more g0));rw [e1] at OO;clear hl b0 e1;go_enter Tryz.func98,Tryz.ntmps98;go_wp2_with fail;rw [← hw0];clear hw0;refine OO.out.mono ?_;rintro e v0 ⟨rfl,h0⟩;go_wp2_with fail;refine (jau _ _ _ [] _ (Or.inl ⟨rfl,rfl⟩) (by decide)).mono ?_;rintro e w6 ⟨⟨a,n,c,rfl,ho,hat⟩,hg6⟩;have hlt:=(Array.getElem?_eq_some_iff.1 B0.out).1;have hsk:=h0.size
     have hne:(Value.slice a n c).ownBlock≠some w.heap.size:=fun hh=>by
      rcases hat _ hh with h | h
      ·cases h
      ·omega
     obtain ⟨b6,hX,hO,gX⟩:=jax (lo:=1) (hi:=1) g0 B0.out h0 (jad _) hg6 (fun g e=>by cases e) ho hne;obtain ⟨r0,r1,r2,f0,f1,f2⟩:=jam b6;have HX:=jac hX;have HO:=jac hO;have GX:=jac gX;clear hX hO gX b6 ho hg6 hne hat hlt hsk;go_wp2;refine bodyPost_ret (jas rfl _ _ w.heap.size rfl HX.out) rfl ?_;exact ⟨⟨_,_,_,rfl,HO.out⟩,GX.out⟩
theorem jqg (w:World) (hl:Laid w) :
    Calls Tryz.prog 98 #[.string ⟨#[65,98,115]⟩] w fun e w'=>ja5 (some (1,1,[jat])) w' e∧w.grownBy w' none:=by
     have e1:jaw ⟨#[65,98,115]⟩=true:=by simp only [jaw,jaj];rfl
     obtain ⟨w0,hw0⟩ : ∃ w0,w0=w.alloc (.cells #[.int .i64 0,.int .i64 0,.slice none 0 0] 134):=⟨_,rfl⟩
     have g0:w.grownBy w0 none:=by rw [hw0];exact jab _ _
     have b0:=heap_alloc_new w (.cells #[.int .i64 0,.int .i64 0,.slice none 0 0] 134);rw [← hw0] at b0;have B0:=jac b0;have OO:=jac (jar ⟨#[65,98,115]⟩ w0 (hl.more g0));rw [e1] at OO;clear hl b0 e1;go_enter Tryz.func98,Tryz.ntmps98;go_wp2_with fail;rw [← hw0];clear hw0;refine OO.out.mono ?_;rintro e v0 ⟨rfl,h0⟩;go_wp2_with fail;refine (jau _ _ _ [] _ (Or.inl ⟨rfl,rfl⟩) (by decide)).mono ?_;rintro e w6 ⟨⟨a,n,c,rfl,ho,hat⟩,hg6⟩;have hlt:=(Array.getElem?_eq_some_iff.1 B0.out).1;have hsk:=h0.size
     have hne:(Value.slice a n c).ownBlock≠some w.heap.size:=fun hh=>by
      rcases hat _ hh with h | h
      ·cases h
      ·omega
     obtain ⟨b6,hX,hO,gX⟩:=jax (lo:=1) (hi:=1) g0 B0.out h0 (jad _) hg6 (fun g e=>by cases e) ho hne;obtain ⟨r0,r1,r2,f0,f1,f2⟩:=jam b6;have HX:=jac hX;have HO:=jac hO;have GX:=jac gX;clear hX hO gX b6 ho hg6 hne hat hlt hsk;go_wp2;refine bodyPost_ret (jas rfl _ _ w.heap.size rfl HX.out) rfl ?_;exact ⟨⟨_,_,_,rfl,HO.out⟩,GX.out⟩
theorem jqh (w:World) (hl:Laid w) :
    Calls Tryz.prog 98 #[.string ⟨#[78,111,116]⟩] w fun e w'=>ja5 (some (1,1,[jat])) w' e∧w.grownBy w' none:=by
     have e1:jaw ⟨#[78,111,116]⟩=true:=by simp only [jaw,jaj];rfl
     obtain ⟨w0,hw0⟩ : ∃ w0,w0=w.alloc (.cells #[.int .i64 0,.int .i64 0,.slice none 0 0] 134):=⟨_,rfl⟩
     have g0:w.grownBy w0 none:=by rw [hw0];exact jab _ _
     have b0:=heap_alloc_new w (.cells #[.int .i64 0,.int .i64 0,.slice none 0 0] 134);rw [← hw0] at b0;have B0:=jac b0;have OO:=jac (jar ⟨#[78,111,116]⟩ w0 (hl.more g0));rw [e1] at OO;clear hl b0 e1;go_enter Tryz.func98,Tryz.ntmps98;go_wp2_with fail;rw [← hw0];clear hw0;refine OO.out.mono ?_;rintro e v0 ⟨rfl,h0⟩;go_wp2_with fail;refine (jau _ _ _ [] _ (Or.inl ⟨rfl,rfl⟩) (by decide)).mono ?_;rintro e w6 ⟨⟨a,n,c,rfl,ho,hat⟩,hg6⟩;have hlt:=(Array.getElem?_eq_some_iff.1 B0.out).1;have hsk:=h0.size
     have hne:(Value.slice a n c).ownBlock≠some w.heap.size:=fun hh=>by
      rcases hat _ hh with h | h
      ·cases h
      ·omega
     obtain ⟨b6,hX,hO,gX⟩:=jax (lo:=1) (hi:=1) g0 B0.out h0 (jad _) hg6 (fun g e=>by cases e) ho hne;obtain ⟨r0,r1,r2,f0,f1,f2⟩:=jam b6;have HX:=jac hX;have HO:=jac hO;have GX:=jac gX;clear hX hO gX b6 ho hg6 hne hat hlt hsk;go_wp2;refine bodyPost_ret (jas rfl _ _ w.heap.size rfl HX.out) rfl ?_;exact ⟨⟨_,_,_,rfl,HO.out⟩,GX.out⟩
theorem jnc (w:World) (hl:Laid w) :
    Calls Tryz.prog 98 #[.string ⟨#[83,113,114,116]⟩] w fun e w'=>ja5 (some (1,1,[jat])) w' e∧w.grownBy w' none:=by
     have e1:jaw ⟨#[83,113,114,116]⟩=true:=by simp only [jaw,jaj];rfl
     obtain ⟨w0,hw0⟩ : ∃ w0,w0=w.alloc (.cells #[.int .i64 0,.int .i64 0,.slice none 0 0] 134):=⟨_,rfl⟩
     have g0:w.grownBy w0 none:=by rw [hw0];exact jab _ _
     have b0:=heap_alloc_new w (.cells #[.int .i64 0,.int .i64 0,.slice none 0 0] 134);rw [← hw0] at b0;have B0:=jac b0;have OO:=jac (jar ⟨#[83,113,114,116]⟩ w0 (hl.more g0));rw [e1] at OO;clear hl b0 e1;go_enter Tryz.func98,Tryz.ntmps98;go_wp2_with fail;rw [← hw0];clear hw0;refine OO.out.mono ?_;rintro e v0 ⟨rfl,h0⟩;go_wp2_with fail;refine (jau _ _ _ [] _ (Or.inl ⟨rfl,rfl⟩) (by decide)).mono ?_;rintro e w6 ⟨⟨a,n,c,rfl,ho,hat⟩,hg6⟩;have hlt:=(Array.getElem?_eq_some_iff.1 B0.out).1;have hsk:=h0.size
     have hne:(Value.slice a n c).ownBlock≠some w.heap.size:=fun hh=>by
      rcases hat _ hh with h | h
      ·cases h
      ·omega
     obtain ⟨b6,hX,hO,gX⟩:=jax (lo:=1) (hi:=1) g0 B0.out h0 (jad _) hg6 (fun g e=>by cases e) ho hne;obtain ⟨r0,r1,r2,f0,f1,f2⟩:=jam b6;have HX:=jac hX;have HO:=jac hO;have GX:=jac gX;clear hX hO gX b6 ho hg6 hne hat hlt hsk;go_wp2;refine bodyPost_ret (jas rfl _ _ w.heap.size rfl HX.out) rfl ?_;exact ⟨⟨_,_,_,rfl,HO.out⟩,GX.out⟩
theorem jlJ (w:World) (hl:Laid w) :
    Calls Tryz.prog 98 #[.string ⟨#[70,108,111,111,114]⟩] w fun e w'=>ja5 (some (1,1,[jat])) w' e∧w.grownBy w' none:=by
     have e1:jaw ⟨#[70,108,111,111,114]⟩=true:=by simp only [jaw,jaj];rfl
     obtain ⟨w0,hw0⟩ : ∃ w0,w0=w.alloc (.cells #[.int .i64 0,.int .i64 0,.slice none 0 0] 134):=⟨_,rfl⟩
     have g0:w.grownBy w0 none:=by rw [hw0];exact jab _ _
     have b0:=heap_alloc_new w (.cells #[.int .i64 0,.int .i64 0,.slice none 0 0] 134);rw [← hw0] at b0;have B0:=jac b0;have OO:=jac (jar ⟨#[70,108,111,111,114]⟩ w0 (hl.more g0));rw [e1] at OO;clear hl b0 e1;go_enter Tryz.func98,Tryz.ntmps98;go_wp2_with fail;rw [← hw0];clear hw0;refine OO.out.mono ?_;rintro e v0 ⟨rfl,h0⟩;go_wp2_with fail;refine (jau _ _ _ [] _ (Or.inl ⟨rfl,rfl⟩) (by decide)).mono ?_;rintro e w6 ⟨⟨a,n,c,rfl,ho,hat⟩,hg6⟩;have hlt:=(Array.getElem?_eq_some_iff.1 B0.out).1;have hsk:=h0.size
     have hne:(Value.slice a n c).ownBlock≠some w.heap.size:=fun hh=>by
      rcases hat _ hh with h | h
      ·cases h
      ·omega
     obtain ⟨b6,hX,hO,gX⟩:=jax (lo:=1) (hi:=1) g0 B0.out h0 (jad _) hg6 (fun g e=>by cases e) ho hne;obtain ⟨r0,r1,r2,f0,f1,f2⟩:=jam b6;have HX:=jac hX;have HO:=jac hO;have GX:=jac gX;clear hX hO gX b6 ho hg6 hne hat hlt hsk;go_wp2;refine bodyPost_ret (jas rfl _ _ w.heap.size rfl HX.out) rfl ?_;exact ⟨⟨_,_,_,rfl,HO.out⟩,GX.out⟩
theorem jqi (w:World) (hl:Laid w) :
    Calls Tryz.prog 98 #[.string ⟨#[69,120,112]⟩] w fun e w'=>ja5 (some (1,1,[jat])) w' e∧w.grownBy w' none:=by
     have e1:jaw ⟨#[69,120,112]⟩=true:=by simp only [jaw,jaj];rfl
     obtain ⟨w0,hw0⟩ : ∃ w0,w0=w.alloc (.cells #[.int .i64 0,.int .i64 0,.slice none 0 0] 134):=⟨_,rfl⟩
     have g0:w.grownBy w0 none:=by rw [hw0];exact jab _ _
     have b0:=heap_alloc_new w (.cells #[.int .i64 0,.int .i64 0,.slice none 0 0] 134);rw [← hw0] at b0;have B0:=jac b0;have OO:=jac (jar ⟨#[69,120,112]⟩ w0 (hl.more g0));rw [e1] at OO;clear hl b0 e1;go_enter Tryz.func98,Tryz.ntmps98;go_wp2_with fail;rw [← hw0];clear hw0;refine OO.out.mono ?_;rintro e v0 ⟨rfl,h0⟩;go_wp2_with fail;refine (jau _ _ _ [] _ (Or.inl ⟨rfl,rfl⟩) (by decide)).mono ?_;rintro e w6 ⟨⟨a,n,c,rfl,ho,hat⟩,hg6⟩;have hlt:=(Array.getElem?_eq_some_iff.1 B0.out).1;have hsk:=h0.size
     have hne:(Value.slice a n c).ownBlock≠some w.heap.size:=fun hh=>by
      rcases hat _ hh with h | h
      ·cases h
      ·omega
     obtain ⟨b6,hX,hO,gX⟩:=jax (lo:=1) (hi:=1) g0 B0.out h0 (jad _) hg6 (fun g e=>by cases e) ho hne;obtain ⟨r0,r1,r2,f0,f1,f2⟩:=jam b6;have HX:=jac hX;have HO:=jac hO;have GX:=jac gX;clear hX hO gX b6 ho hg6 hne hat hlt hsk;go_wp2;refine bodyPost_ret (jas rfl _ _ w.heap.size rfl HX.out) rfl ?_;exact ⟨⟨_,_,_,rfl,HO.out⟩,GX.out⟩
theorem jiC (w:World) (hl:Laid w) :
    Calls Tryz.prog 98 #[.string ⟨#[83,105,103,109,111,105,100]⟩] w fun e w'=>ja5 (some (1,1,[jat])) w' e∧w.grownBy w' none:=by
     have e1:jaw ⟨#[83,105,103,109,111,105,100]⟩=true:=by simp only [jaw,jaj];rfl
     obtain ⟨w0,hw0⟩ : ∃ w0,w0=w.alloc (.cells #[.int .i64 0,.int .i64 0,.slice none 0 0] 134):=⟨_,rfl⟩
     have g0:w.grownBy w0 none:=by rw [hw0];exact jab _ _
     have b0:=heap_alloc_new w (.cells #[.int .i64 0,.int .i64 0,.slice none 0 0] 134);rw [← hw0] at b0;have B0:=jac b0;have OO:=jac (jar ⟨#[83,105,103,109,111,105,100]⟩ w0 (hl.more g0));rw [e1] at OO;clear hl b0 e1;go_enter Tryz.func98,Tryz.ntmps98;go_wp2_with fail;rw [← hw0];clear hw0;refine OO.out.mono ?_;rintro e v0 ⟨rfl,h0⟩;go_wp2_with fail;refine (jau _ _ _ [] _ (Or.inl ⟨rfl,rfl⟩) (by decide)).mono ?_;rintro e w6 ⟨⟨a,n,c,rfl,ho,hat⟩,hg6⟩;have hlt:=(Array.getElem?_eq_some_iff.1 B0.out).1;have hsk:=h0.size
     have hne:(Value.slice a n c).ownBlock≠some w.heap.size:=fun hh=>by
      rcases hat _ hh with h | h
      ·cases h
      ·omega
     obtain ⟨b6,hX,hO,gX⟩:=jax (lo:=1) (hi:=1) g0 B0.out h0 (jad _) hg6 (fun g e=>by cases e) ho hne;obtain ⟨r0,r1,r2,f0,f1,f2⟩:=jam b6;have HX:=jac hX;have HO:=jac hO;have GX:=jac gX;clear hX hO gX b6 ho hg6 hne hat hlt hsk;go_wp2;refine bodyPost_ret (jas rfl _ _ w.heap.size rfl HX.out) rfl ?_;exact ⟨⟨_,_,_,rfl,HO.out⟩,GX.out⟩
theorem jnd (w:World) (hl:Laid w) :
    Calls Tryz.prog 98 #[.string ⟨#[84,97,110,104]⟩] w fun e w'=>ja5 (some (1,1,[jat])) w' e∧w.grownBy w' none:=by
     have e1:jaw ⟨#[84,97,110,104]⟩=true:=by simp only [jaw,jaj];rfl
     obtain ⟨w0,hw0⟩ : ∃ w0,w0=w.alloc (.cells #[.int .i64 0,.int .i64 0,.slice none 0 0] 134):=⟨_,rfl⟩
     have g0:w.grownBy w0 none:=by rw [hw0];exact jab _ _
     have b0:=heap_alloc_new w (.cells #[.int .i64 0,.int .i64 0,.slice none 0 0] 134);rw [← hw0] at b0;have B0:=jac b0;have OO:=jac (jar ⟨#[84,97,110,104]⟩ w0 (hl.more g0));rw [e1] at OO;clear hl b0 e1;go_enter Tryz.func98,Tryz.ntmps98;go_wp2_with fail;rw [← hw0];clear hw0;refine OO.out.mono ?_;rintro e v0 ⟨rfl,h0⟩;go_wp2_with fail;refine (jau _ _ _ [] _ (Or.inl ⟨rfl,rfl⟩) (by decide)).mono ?_;rintro e w6 ⟨⟨a,n,c,rfl,ho,hat⟩,hg6⟩;have hlt:=(Array.getElem?_eq_some_iff.1 B0.out).1;have hsk:=h0.size
     have hne:(Value.slice a n c).ownBlock≠some w.heap.size:=fun hh=>by
      rcases hat _ hh with h | h
      ·cases h
      ·omega
     obtain ⟨b6,hX,hO,gX⟩:=jax (lo:=1) (hi:=1) g0 B0.out h0 (jad _) hg6 (fun g e=>by cases e) ho hne;obtain ⟨r0,r1,r2,f0,f1,f2⟩:=jam b6;have HX:=jac hX;have HO:=jac hO;have GX:=jac gX;clear hX hO gX b6 ho hg6 hne hat hlt hsk;go_wp2;refine bodyPost_ret (jas rfl _ _ w.heap.size rfl HX.out) rfl ?_;exact ⟨⟨_,_,_,rfl,HO.out⟩,GX.out⟩
theorem jqj (w:World) (hl:Laid w) :
    Calls Tryz.prog 98 #[.string ⟨#[83,117,98]⟩] w fun e w'=>ja5 (some (2,2,[jat])) w' e∧w.grownBy w' none:=by
     have e1:jaw ⟨#[83,117,98]⟩=false:=by simp only [jaw,jaj];rfl
     obtain ⟨w0,hw0⟩ : ∃ w0,w0=w.alloc (.cells #[.int .i64 0,.int .i64 0,.slice none 0 0] 134):=⟨_,rfl⟩
     have g0:w.grownBy w0 none:=by rw [hw0];exact jab _ _
     have b0:=heap_alloc_new w (.cells #[.int .i64 0,.int .i64 0,.slice none 0 0] 134);rw [← hw0] at b0;have B0:=jac b0;have OO:=jac (jar ⟨#[83,117,98]⟩ w0 (hl.more g0));rw [e1] at OO;clear hl b0 e1;go_enter Tryz.func98,Tryz.ntmps98;go_wp2_with fail;rw [← hw0];clear hw0;refine OO.out.mono ?_;rintro e v0 ⟨rfl,h0⟩;go_wp2_with fail;refine (jau _ _ _ [] _ (Or.inl ⟨rfl,rfl⟩) (by decide)).mono ?_;rintro e w6 ⟨⟨a,n,c,rfl,ho,hat⟩,hg6⟩;have hlt:=(Array.getElem?_eq_some_iff.1 B0.out).1;have hsk:=h0.size
     have hne:(Value.slice a n c).ownBlock≠some w.heap.size:=fun hh=>by
      rcases hat _ hh with h | h
      ·cases h
      ·omega
     obtain ⟨b6,hX,hO,gX⟩:=jax (lo:=2) (hi:=2) g0 B0.out h0 (jad _) hg6 (fun g e=>by cases e) ho hne;obtain ⟨r0,r1,r2,f0,f1,f2⟩:=jam b6;have HX:=jac hX;have HO:=jac hO;have GX:=jac gX;clear hX hO gX b6 ho hg6 hne hat hlt hsk;go_wp2;refine bodyPost_ret (jas rfl _ _ w.heap.size rfl HX.out) rfl ?_;exact ⟨⟨_,_,_,rfl,HO.out⟩,GX.out⟩
theorem jqk (w:World) (hl:Laid w) :
    Calls Tryz.prog 98 #[.string ⟨#[77,117,108]⟩] w fun e w'=>ja5 (some (2,2,[jat])) w' e∧w.grownBy w' none:=by
     have e1:jaw ⟨#[77,117,108]⟩=false:=by simp only [jaw,jaj];rfl
     obtain ⟨w0,hw0⟩ : ∃ w0,w0=w.alloc (.cells #[.int .i64 0,.int .i64 0,.slice none 0 0] 134):=⟨_,rfl⟩
     have g0:w.grownBy w0 none:=by rw [hw0];exact jab _ _
     have b0:=heap_alloc_new w (.cells #[.int .i64 0,.int .i64 0,.slice none 0 0] 134);rw [← hw0] at b0;have B0:=jac b0;have OO:=jac (jar ⟨#[77,117,108]⟩ w0 (hl.more g0));rw [e1] at OO;clear hl b0 e1;go_enter Tryz.func98,Tryz.ntmps98;go_wp2_with fail;rw [← hw0];clear hw0;refine OO.out.mono ?_;rintro e v0 ⟨rfl,h0⟩;go_wp2_with fail;refine (jau _ _ _ [] _ (Or.inl ⟨rfl,rfl⟩) (by decide)).mono ?_;rintro e w6 ⟨⟨a,n,c,rfl,ho,hat⟩,hg6⟩;have hlt:=(Array.getElem?_eq_some_iff.1 B0.out).1;have hsk:=h0.size
     have hne:(Value.slice a n c).ownBlock≠some w.heap.size:=fun hh=>by
      rcases hat _ hh with h | h
      ·cases h
      ·omega
     obtain ⟨b6,hX,hO,gX⟩:=jax (lo:=2) (hi:=2) g0 B0.out h0 (jad _) hg6 (fun g e=>by cases e) ho hne;obtain ⟨r0,r1,r2,f0,f1,f2⟩:=jam b6;have HX:=jac hX;have HO:=jac hO;have GX:=jac gX;clear hX hO gX b6 ho hg6 hne hat hlt hsk;go_wp2;refine bodyPost_ret (jas rfl _ _ w.heap.size rfl HX.out) rfl ?_;exact ⟨⟨_,_,_,rfl,HO.out⟩,GX.out⟩
theorem jql (w:World) (hl:Laid w) :
    Calls Tryz.prog 98 #[.string ⟨#[68,105,118]⟩] w fun e w'=>ja5 (some (2,2,[jat])) w' e∧w.grownBy w' none:=by
     have e1:jaw ⟨#[68,105,118]⟩=false:=by simp only [jaw,jaj];rfl
     obtain ⟨w0,hw0⟩ : ∃ w0,w0=w.alloc (.cells #[.int .i64 0,.int .i64 0,.slice none 0 0] 134):=⟨_,rfl⟩
     have g0:w.grownBy w0 none:=by rw [hw0];exact jab _ _
     have b0:=heap_alloc_new w (.cells #[.int .i64 0,.int .i64 0,.slice none 0 0] 134);rw [← hw0] at b0;have B0:=jac b0;have OO:=jac (jar ⟨#[68,105,118]⟩ w0 (hl.more g0));rw [e1] at OO;clear hl b0 e1;go_enter Tryz.func98,Tryz.ntmps98;go_wp2_with fail;rw [← hw0];clear hw0;refine OO.out.mono ?_;rintro e v0 ⟨rfl,h0⟩;go_wp2_with fail;refine (jau _ _ _ [] _ (Or.inl ⟨rfl,rfl⟩) (by decide)).mono ?_;rintro e w6 ⟨⟨a,n,c,rfl,ho,hat⟩,hg6⟩;have hlt:=(Array.getElem?_eq_some_iff.1 B0.out).1;have hsk:=h0.size
     have hne:(Value.slice a n c).ownBlock≠some w.heap.size:=fun hh=>by
      rcases hat _ hh with h | h
      ·cases h
      ·omega
     obtain ⟨b6,hX,hO,gX⟩:=jax (lo:=2) (hi:=2) g0 B0.out h0 (jad _) hg6 (fun g e=>by cases e) ho hne;obtain ⟨r0,r1,r2,f0,f1,f2⟩:=jam b6;have HX:=jac hX;have HO:=jac hO;have GX:=jac gX;clear hX hO gX b6 ho hg6 hne hat hlt hsk;go_wp2;refine bodyPost_ret (jas rfl _ _ w.heap.size rfl HX.out) rfl ?_;exact ⟨⟨_,_,_,rfl,HO.out⟩,GX.out⟩
theorem jqm (w:World) (hl:Laid w) :
    Calls Tryz.prog 98 #[.string ⟨#[77,97,120]⟩] w fun e w'=>ja5 (some (2,2,[jat])) w' e∧w.grownBy w' none:=by
     have e1:jaw ⟨#[77,97,120]⟩=false:=by simp only [jaw,jaj];rfl
     obtain ⟨w0,hw0⟩ : ∃ w0,w0=w.alloc (.cells #[.int .i64 0,.int .i64 0,.slice none 0 0] 134):=⟨_,rfl⟩
     have g0:w.grownBy w0 none:=by rw [hw0];exact jab _ _
     have b0:=heap_alloc_new w (.cells #[.int .i64 0,.int .i64 0,.slice none 0 0] 134);rw [← hw0] at b0;have B0:=jac b0;have OO:=jac (jar ⟨#[77,97,120]⟩ w0 (hl.more g0));rw [e1] at OO;clear hl b0 e1;go_enter Tryz.func98,Tryz.ntmps98;go_wp2_with fail;rw [← hw0];clear hw0;refine OO.out.mono ?_;rintro e v0 ⟨rfl,h0⟩;go_wp2_with fail;refine (jau _ _ _ [] _ (Or.inl ⟨rfl,rfl⟩) (by decide)).mono ?_;rintro e w6 ⟨⟨a,n,c,rfl,ho,hat⟩,hg6⟩;have hlt:=(Array.getElem?_eq_some_iff.1 B0.out).1;have hsk:=h0.size
     have hne:(Value.slice a n c).ownBlock≠some w.heap.size:=fun hh=>by
      rcases hat _ hh with h | h
      ·cases h
      ·omega
     obtain ⟨b6,hX,hO,gX⟩:=jax (lo:=2) (hi:=2) g0 B0.out h0 (jad _) hg6 (fun g e=>by cases e) ho hne;obtain ⟨r0,r1,r2,f0,f1,f2⟩:=jam b6;have HX:=jac hX;have HO:=jac hO;have GX:=jac gX;clear hX hO gX b6 ho hg6 hne hat hlt hsk;go_wp2;refine bodyPost_ret (jas rfl _ _ w.heap.size rfl HX.out) rfl ?_;exact ⟨⟨_,_,_,rfl,HO.out⟩,GX.out⟩
theorem jqn (w:World) (hl:Laid w) :
    Calls Tryz.prog 98 #[.string ⟨#[77,105,110]⟩] w fun e w'=>ja5 (some (2,2,[jat])) w' e∧w.grownBy w' none:=by
     have e1:jaw ⟨#[77,105,110]⟩=false:=by simp only [jaw,jaj];rfl
     obtain ⟨w0,hw0⟩ : ∃ w0,w0=w.alloc (.cells #[.int .i64 0,.int .i64 0,.slice none 0 0] 134):=⟨_,rfl⟩
     have g0:w.grownBy w0 none:=by rw [hw0];exact jab _ _
     have b0:=heap_alloc_new w (.cells #[.int .i64 0,.int .i64 0,.slice none 0 0] 134);rw [← hw0] at b0;have B0:=jac b0;have OO:=jac (jar ⟨#[77,105,110]⟩ w0 (hl.more g0));rw [e1] at OO;clear hl b0 e1;go_enter Tryz.func98,Tryz.ntmps98;go_wp2_with fail;rw [← hw0];clear hw0;refine OO.out.mono ?_;rintro e v0 ⟨rfl,h0⟩;go_wp2_with fail;refine (jau _ _ _ [] _ (Or.inl ⟨rfl,rfl⟩) (by decide)).mono ?_;rintro e w6 ⟨⟨a,n,c,rfl,ho,hat⟩,hg6⟩;have hlt:=(Array.getElem?_eq_some_iff.1 B0.out).1;have hsk:=h0.size
     have hne:(Value.slice a n c).ownBlock≠some w.heap.size:=fun hh=>by
      rcases hat _ hh with h | h
      ·cases h
      ·omega
     obtain ⟨b6,hX,hO,gX⟩:=jax (lo:=2) (hi:=2) g0 B0.out h0 (jad _) hg6 (fun g e=>by cases e) ho hne;obtain ⟨r0,r1,r2,f0,f1,f2⟩:=jam b6;have HX:=jac hX;have HO:=jac hO;have GX:=jac gX;clear hX hO gX b6 ho hg6 hne hat hlt hsk;go_wp2;refine bodyPost_ret (jas rfl _ _ w.heap.size rfl HX.out) rfl ?_;exact ⟨⟨_,_,_,rfl,HO.out⟩,GX.out⟩
theorem jqo (w:World) (hl:Laid w) :
    Calls Tryz.prog 98 #[.string ⟨#[65,110,100]⟩] w fun e w'=>ja5 (some (2,2,[jat])) w' e∧w.grownBy w' none:=by
     have e1:jaw ⟨#[65,110,100]⟩=false:=by simp only [jaw,jaj];rfl
     obtain ⟨w0,hw0⟩ : ∃ w0,w0=w.alloc (.cells #[.int .i64 0,.int .i64 0,.slice none 0 0] 134):=⟨_,rfl⟩
     have g0:w.grownBy w0 none:=by rw [hw0];exact jab _ _
     have b0:=heap_alloc_new w (.cells #[.int .i64 0,.int .i64 0,.slice none 0 0] 134);rw [← hw0] at b0;have B0:=jac b0;have OO:=jac (jar ⟨#[65,110,100]⟩ w0 (hl.more g0));rw [e1] at OO;clear hl b0 e1;go_enter Tryz.func98,Tryz.ntmps98;go_wp2_with fail;rw [← hw0];clear hw0;refine OO.out.mono ?_;rintro e v0 ⟨rfl,h0⟩;go_wp2_with fail;refine (jau _ _ _ [] _ (Or.inl ⟨rfl,rfl⟩) (by decide)).mono ?_;rintro e w6 ⟨⟨a,n,c,rfl,ho,hat⟩,hg6⟩;have hlt:=(Array.getElem?_eq_some_iff.1 B0.out).1;have hsk:=h0.size
     have hne:(Value.slice a n c).ownBlock≠some w.heap.size:=fun hh=>by
      rcases hat _ hh with h | h
      ·cases h
      ·omega
     obtain ⟨b6,hX,hO,gX⟩:=jax (lo:=2) (hi:=2) g0 B0.out h0 (jad _) hg6 (fun g e=>by cases e) ho hne;obtain ⟨r0,r1,r2,f0,f1,f2⟩:=jam b6;have HX:=jac hX;have HO:=jac hO;have GX:=jac gX;clear hX hO gX b6 ho hg6 hne hat hlt hsk;go_wp2;refine bodyPost_ret (jas rfl _ _ w.heap.size rfl HX.out) rfl ?_;exact ⟨⟨_,_,_,rfl,HO.out⟩,GX.out⟩
theorem jsM (w:World) (hl:Laid w) :
    Calls Tryz.prog 98 #[.string ⟨#[79,114]⟩] w fun e w'=>ja5 (some (2,2,[jat])) w' e∧w.grownBy w' none:=by
     have e1:jaw ⟨#[79,114]⟩=false:=by simp only [jaw,jaj];rfl
     obtain ⟨w0,hw0⟩ : ∃ w0,w0=w.alloc (.cells #[.int .i64 0,.int .i64 0,.slice none 0 0] 134):=⟨_,rfl⟩
     have g0:w.grownBy w0 none:=by rw [hw0];exact jab _ _
     have b0:=heap_alloc_new w (.cells #[.int .i64 0,.int .i64 0,.slice none 0 0] 134);rw [← hw0] at b0;have B0:=jac b0;have OO:=jac (jar ⟨#[79,114]⟩ w0 (hl.more g0));rw [e1] at OO;clear hl b0 e1;go_enter Tryz.func98,Tryz.ntmps98;go_wp2_with fail;rw [← hw0];clear hw0;refine OO.out.mono ?_;rintro e v0 ⟨rfl,h0⟩;go_wp2_with fail;refine (jau _ _ _ [] _ (Or.inl ⟨rfl,rfl⟩) (by decide)).mono ?_;rintro e w6 ⟨⟨a,n,c,rfl,ho,hat⟩,hg6⟩;have hlt:=(Array.getElem?_eq_some_iff.1 B0.out).1;have hsk:=h0.size
     have hne:(Value.slice a n c).ownBlock≠some w.heap.size:=fun hh=>by
      rcases hat _ hh with h | h
      ·cases h
      ·omega
     obtain ⟨b6,hX,hO,gX⟩:=jax (lo:=2) (hi:=2) g0 B0.out h0 (jad _) hg6 (fun g e=>by cases e) ho hne;obtain ⟨r0,r1,r2,f0,f1,f2⟩:=jam b6;have HX:=jac hX;have HO:=jac hO;have GX:=jac gX;clear hX hO gX b6 ho hg6 hne hat hlt hsk;go_wp2;refine bodyPost_ret (jas rfl _ _ w.heap.size rfl HX.out) rfl ?_;exact ⟨⟨_,_,_,rfl,HO.out⟩,GX.out⟩
theorem jqp (w:World) (hl:Laid w) :
    Calls Tryz.prog 98 #[.string ⟨#[88,111,114]⟩] w fun e w'=>ja5 (some (2,2,[jat])) w' e∧w.grownBy w' none:=by
     have e1:jaw ⟨#[88,111,114]⟩=false:=by simp only [jaw,jaj];rfl
     obtain ⟨w0,hw0⟩ : ∃ w0,w0=w.alloc (.cells #[.int .i64 0,.int .i64 0,.slice none 0 0] 134):=⟨_,rfl⟩
     have g0:w.grownBy w0 none:=by rw [hw0];exact jab _ _
     have b0:=heap_alloc_new w (.cells #[.int .i64 0,.int .i64 0,.slice none 0 0] 134);rw [← hw0] at b0;have B0:=jac b0;have OO:=jac (jar ⟨#[88,111,114]⟩ w0 (hl.more g0));rw [e1] at OO;clear hl b0 e1;go_enter Tryz.func98,Tryz.ntmps98;go_wp2_with fail;rw [← hw0];clear hw0;refine OO.out.mono ?_;rintro e v0 ⟨rfl,h0⟩;go_wp2_with fail;refine (jau _ _ _ [] _ (Or.inl ⟨rfl,rfl⟩) (by decide)).mono ?_;rintro e w6 ⟨⟨a,n,c,rfl,ho,hat⟩,hg6⟩;have hlt:=(Array.getElem?_eq_some_iff.1 B0.out).1;have hsk:=h0.size
     have hne:(Value.slice a n c).ownBlock≠some w.heap.size:=fun hh=>by
      rcases hat _ hh with h | h
      ·cases h
      ·omega
     obtain ⟨b6,hX,hO,gX⟩:=jax (lo:=2) (hi:=2) g0 B0.out h0 (jad _) hg6 (fun g e=>by cases e) ho hne;obtain ⟨r0,r1,r2,f0,f1,f2⟩:=jam b6;have HX:=jac hX;have HO:=jac hO;have GX:=jac gX;clear hX hO gX b6 ho hg6 hne hat hlt hsk;go_wp2;refine bodyPost_ret (jas rfl _ _ w.heap.size rfl HX.out) rfl ?_;exact ⟨⟨_,_,_,rfl,HO.out⟩,GX.out⟩
theorem jlK (w:World) (hl:Laid w) :
    Calls Tryz.prog 98 #[.string ⟨#[69,113,117,97,108]⟩] w fun e w'=>ja5 (some (2,2,[jat])) w' e∧w.grownBy w' none:=by
     have e1:jaw ⟨#[69,113,117,97,108]⟩=false:=by simp only [jaw,jaj];rfl
     obtain ⟨w0,hw0⟩ : ∃ w0,w0=w.alloc (.cells #[.int .i64 0,.int .i64 0,.slice none 0 0] 134):=⟨_,rfl⟩
     have g0:w.grownBy w0 none:=by rw [hw0];exact jab _ _
     have b0:=heap_alloc_new w (.cells #[.int .i64 0,.int .i64 0,.slice none 0 0] 134);rw [← hw0] at b0;have B0:=jac b0;have OO:=jac (jar ⟨#[69,113,117,97,108]⟩ w0 (hl.more g0));rw [e1] at OO;clear hl b0 e1;go_enter Tryz.func98,Tryz.ntmps98;go_wp2_with fail;rw [← hw0];clear hw0;refine OO.out.mono ?_;rintro e v0 ⟨rfl,h0⟩;go_wp2_with fail;refine (jau _ _ _ [] _ (Or.inl ⟨rfl,rfl⟩) (by decide)).mono ?_;rintro e w6 ⟨⟨a,n,c,rfl,ho,hat⟩,hg6⟩;have hlt:=(Array.getElem?_eq_some_iff.1 B0.out).1;have hsk:=h0.size
     have hne:(Value.slice a n c).ownBlock≠some w.heap.size:=fun hh=>by
      rcases hat _ hh with h | h
      ·cases h
      ·omega
     obtain ⟨b6,hX,hO,gX⟩:=jax (lo:=2) (hi:=2) g0 B0.out h0 (jad _) hg6 (fun g e=>by cases e) ho hne;obtain ⟨r0,r1,r2,f0,f1,f2⟩:=jam b6;have HX:=jac hX;have HO:=jac hO;have GX:=jac gX;clear hX hO gX b6 ho hg6 hne hat hlt hsk;go_wp2;refine bodyPost_ret (jas rfl _ _ w.heap.size rfl HX.out) rfl ?_;exact ⟨⟨_,_,_,rfl,HO.out⟩,GX.out⟩
theorem jne (w:World) (hl:Laid w) :
    Calls Tryz.prog 98 #[.string ⟨#[76,101,115,115]⟩] w fun e w'=>ja5 (some (2,2,[jat])) w' e∧w.grownBy w' none:=by
     have e1:jaw ⟨#[76,101,115,115]⟩=false:=by simp only [jaw,jaj];rfl
     obtain ⟨w0,hw0⟩ : ∃ w0,w0=w.alloc (.cells #[.int .i64 0,.int .i64 0,.slice none 0 0] 134):=⟨_,rfl⟩
     have g0:w.grownBy w0 none:=by rw [hw0];exact jab _ _
     have b0:=heap_alloc_new w (.cells #[.int .i64 0,.int .i64 0,.slice none 0 0] 134);rw [← hw0] at b0;have B0:=jac b0;have OO:=jac (jar ⟨#[76,101,115,115]⟩ w0 (hl.more g0));rw [e1] at OO;clear hl b0 e1;go_enter Tryz.func98,Tryz.ntmps98;go_wp2_with fail;rw [← hw0];clear hw0;refine OO.out.mono ?_;rintro e v0 ⟨rfl,h0⟩;go_wp2_with fail;refine (jau _ _ _ [] _ (Or.inl ⟨rfl,rfl⟩) (by decide)).mono ?_;rintro e w6 ⟨⟨a,n,c,rfl,ho,hat⟩,hg6⟩;have hlt:=(Array.getElem?_eq_some_iff.1 B0.out).1;have hsk:=h0.size
     have hne:(Value.slice a n c).ownBlock≠some w.heap.size:=fun hh=>by
      rcases hat _ hh with h | h
      ·cases h
      ·omega
     obtain ⟨b6,hX,hO,gX⟩:=jax (lo:=2) (hi:=2) g0 B0.out h0 (jad _) hg6 (fun g e=>by cases e) ho hne;obtain ⟨r0,r1,r2,f0,f1,f2⟩:=jam b6;have HX:=jac hX;have HO:=jac hO;have GX:=jac gX;clear hX hO gX b6 ho hg6 hne hat hlt hsk;go_wp2;refine bodyPost_ret (jas rfl _ _ w.heap.size rfl HX.out) rfl ?_;exact ⟨⟨_,_,_,rfl,HO.out⟩,GX.out⟩
theorem jiD (w:World) (hl:Laid w) :
    Calls Tryz.prog 98 #[.string ⟨#[71,114,101,97,116,101,114]⟩] w fun e w'=>ja5 (some (2,2,[jat])) w' e∧w.grownBy w' none:=by
     have e1:jaw ⟨#[71,114,101,97,116,101,114]⟩=false:=by simp only [jaw,jaj];rfl
     obtain ⟨w0,hw0⟩ : ∃ w0,w0=w.alloc (.cells #[.int .i64 0,.int .i64 0,.slice none 0 0] 134):=⟨_,rfl⟩
     have g0:w.grownBy w0 none:=by rw [hw0];exact jab _ _
     have b0:=heap_alloc_new w (.cells #[.int .i64 0,.int .i64 0,.slice none 0 0] 134);rw [← hw0] at b0;have B0:=jac b0;have OO:=jac (jar ⟨#[71,114,101,97,116,101,114]⟩ w0 (hl.more g0));rw [e1] at OO;clear hl b0 e1;go_enter Tryz.func98,Tryz.ntmps98;go_wp2_with fail;rw [← hw0];clear hw0;refine OO.out.mono ?_;rintro e v0 ⟨rfl,h0⟩;go_wp2_with fail;refine (jau _ _ _ [] _ (Or.inl ⟨rfl,rfl⟩) (by decide)).mono ?_;rintro e w6 ⟨⟨a,n,c,rfl,ho,hat⟩,hg6⟩;have hlt:=(Array.getElem?_eq_some_iff.1 B0.out).1;have hsk:=h0.size
     have hne:(Value.slice a n c).ownBlock≠some w.heap.size:=fun hh=>by
      rcases hat _ hh with h | h
      ·cases h
      ·omega
     obtain ⟨b6,hX,hO,gX⟩:=jax (lo:=2) (hi:=2) g0 B0.out h0 (jad _) hg6 (fun g e=>by cases e) ho hne;obtain ⟨r0,r1,r2,f0,f1,f2⟩:=jam b6;have HX:=jac hX;have HO:=jac hO;have GX:=jac gX;clear hX hO gX b6 ho hg6 hne hat hlt hsk;go_wp2;refine bodyPost_ret (jas rfl _ _ w.heap.size rfl HX.out) rfl ?_;exact ⟨⟨_,_,_,rfl,HO.out⟩,GX.out⟩
theorem jjM (w:World) (hl:Laid w) :
    Calls Tryz.prog 98 #[.string ⟨#[77,97,116,77,117,108]⟩] w fun e w'=>ja5 (some (2,2,[jat])) w' e∧w.grownBy w' none:=by
     have e1:jaw ⟨#[77,97,116,77,117,108]⟩=false:=by simp only [jaw,jaj];rfl
     obtain ⟨w0,hw0⟩ : ∃ w0,w0=w.alloc (.cells #[.int .i64 0,.int .i64 0,.slice none 0 0] 134):=⟨_,rfl⟩
     have g0:w.grownBy w0 none:=by rw [hw0];exact jab _ _
     have b0:=heap_alloc_new w (.cells #[.int .i64 0,.int .i64 0,.slice none 0 0] 134);rw [← hw0] at b0;have B0:=jac b0;have OO:=jac (jar ⟨#[77,97,116,77,117,108]⟩ w0 (hl.more g0));rw [e1] at OO;clear hl b0 e1;go_enter Tryz.func98,Tryz.ntmps98;go_wp2_with fail;rw [← hw0];clear hw0;refine OO.out.mono ?_;rintro e v0 ⟨rfl,h0⟩;go_wp2_with fail;refine (jau _ _ _ [] _ (Or.inl ⟨rfl,rfl⟩) (by decide)).mono ?_;rintro e w6 ⟨⟨a,n,c,rfl,ho,hat⟩,hg6⟩;have hlt:=(Array.getElem?_eq_some_iff.1 B0.out).1;have hsk:=h0.size
     have hne:(Value.slice a n c).ownBlock≠some w.heap.size:=fun hh=>by
      rcases hat _ hh with h | h
      ·cases h
      ·omega
     obtain ⟨b6,hX,hO,gX⟩:=jax (lo:=2) (hi:=2) g0 B0.out h0 (jad _) hg6 (fun g e=>by cases e) ho hne;obtain ⟨r0,r1,r2,f0,f1,f2⟩:=jam b6;have HX:=jac hX;have HO:=jac hO;have GX:=jac gX;clear hX hO gX b6 ho hg6 hne hat hlt hsk;go_wp2;refine bodyPost_ret (jas rfl _ _ w.heap.size rfl HX.out) rfl ?_;exact ⟨⟨_,_,_,rfl,HO.out⟩,GX.out⟩
end Go.Proofs.YteigfipgmghgmaaGreatDoor
namespace Go.Proofs.YteigfipgmghgmaaGreatDoor
open Go.RowKit
theorem jlL (w:World) (hl:Laid w) :
    Calls Tryz.prog 98 #[.string ⟨#[87,104,101,114,101]⟩] w fun e w'=>ja5 (some (3,3,[jat])) w' e∧w.grownBy w' none:=by
     have e1:jaw ⟨#[87,104,101,114,101]⟩=false:=by simp only [jaw,jaj];rfl
     obtain ⟨w0,hw0⟩ : ∃ w0,w0=w.alloc (.cells #[.int .i64 0,.int .i64 0,.slice none 0 0] 134):=⟨_,rfl⟩
     have g0:w.grownBy w0 none:=by rw [hw0];exact jab _ _
     have b0:=heap_alloc_new w (.cells #[.int .i64 0,.int .i64 0,.slice none 0 0] 134);rw [← hw0] at b0;have B0:=jac b0;have OO:=jac (jar ⟨#[87,104,101,114,101]⟩ w0 (hl.more g0));rw [e1] at OO;clear hl b0 e1;go_enter Tryz.func98,Tryz.ntmps98;go_wp2_with fail;rw [← hw0];clear hw0;refine OO.out.mono ?_;rintro e v0 ⟨rfl,h0⟩;go_wp2_with fail;refine (jau _ _ _ [] _ (Or.inl ⟨rfl,rfl⟩) (by decide)).mono ?_;rintro e w6 ⟨⟨a,n,c,rfl,ho,hat⟩,hg6⟩;have hlt:=(Array.getElem?_eq_some_iff.1 B0.out).1;have hsk:=h0.size
     have hne:(Value.slice a n c).ownBlock≠some w.heap.size:=fun hh=>by
      rcases hat _ hh with h | h
      ·cases h
      ·omega
     obtain ⟨b6,hX,hO,gX⟩:=jax (lo:=3) (hi:=3) g0 B0.out h0 (jad _) hg6 (fun g e=>by cases e) ho hne;obtain ⟨r0,r1,r2,f0,f1,f2⟩:=jam b6;have HX:=jac hX;have HO:=jac hO;have GX:=jac gX;clear hX hO gX b6 ho hg6 hne hat hlt hsk;go_wp2;refine bodyPost_ret (jas rfl _ _ w.heap.size rfl HX.out) rfl ?_;exact ⟨⟨_,_,_,rfl,HO.out⟩,GX.out⟩
theorem jnf (w:World) (hl:Laid w) :
    Calls Tryz.prog 98 #[.string ⟨#[67,108,105,112]⟩] w fun e w'=>ja5 (some (1,1,[⟨⟨#[109,105,110]⟩,1,false⟩,⟨⟨#[109,97,120]⟩,1,false⟩,jat])) w' e∧w.grownBy w' none:=by
     have e1:jaw ⟨#[67,108,105,112]⟩=false:=by simp only [jaw,jaj];rfl
     obtain ⟨w0,hw0⟩ : ∃ w0,w0=w.alloc (.cells #[.int .i64 0,.int .i64 0,.slice none 0 0] 134):=⟨_,rfl⟩
     have g0:w.grownBy w0 none:=by rw [hw0];exact jab _ _
     have b0:=heap_alloc_new w (.cells #[.int .i64 0,.int .i64 0,.slice none 0 0] 134);rw [← hw0] at b0;have B0:=jac b0;have OO:=jac (jar ⟨#[67,108,105,112]⟩ w0 (hl.more g0));rw [e1] at OO;clear hl b0 e1;go_enter Tryz.func98,Tryz.ntmps98;go_wp2_with fail;rw [← hw0];clear hw0;refine OO.out.mono ?_;rintro e v0 ⟨rfl,h0⟩;go_wp2_with fail;refine (jaV _ _ _).mono ?_;rintro e v1 ⟨rfl,h1'⟩;have h1:=jaa h0 h1';go_wp2_with fail;refine (jaV _ _ _).mono ?_;rintro e v2 ⟨rfl,h2'⟩;have h2:=jaa h1 h2';go_wp2_with fail;refine (jau _ _ _ [⟨⟨#[109,105,110]⟩,1,false⟩,⟨⟨#[109,97,120]⟩,1,false⟩] _ (Or.inr ⟨_,_,rfl,heap_alloc_new _ _,rfl,rfl⟩) (by decide)).mono ?_;rintro e w6 ⟨⟨a,n,c,rfl,ho,hat⟩,hg6⟩;have hlt:=(Array.getElem?_eq_some_iff.1 B0.out).1;have hsk:=h2.size
     have hne:(Value.slice a n c).ownBlock≠some w.heap.size:=fun hh=>by
      rcases hat _ hh with h | h
      ·have:v2.heap.size=w.heap.size:=by simpa [Value.ownBlock] using h
       omega
      ·have:v2.heap.size+1≤w.heap.size:=by simpa using h
       omega
     obtain ⟨b6,hX,hO,gX⟩:=jax (lo:=1) (hi:=1) g0 B0.out h2 (jab v2 (.cells #[.string ⟨#[109,105,110]⟩,.int .i64 1,.bool false,.string ⟨#[109,97,120]⟩,.int .i64 1,.bool false] 161)) hg6 (fun g e=>by cases e;exact Nat.le_refl _) ho hne;obtain ⟨r0,r1,r2,f0,f1,f2⟩:=jam b6;have HX:=jac hX;have HO:=jac hO;have GX:=jac gX;clear hX hO gX b6 ho hg6 hne hat hlt hsk;go_wp2;refine bodyPost_ret (jas rfl _ _ w.heap.size rfl HX.out) rfl ?_;exact ⟨⟨_,_,_,rfl,HO.out⟩,GX.out⟩
theorem jgs (w:World) (hl:Laid w) :
    Calls Tryz.prog 98 #[.string ⟨#[82,101,100,117,99,101,83,117,109]⟩] w fun e w'=>ja5 (some (1,1,[⟨⟨#[97,120,101,115]⟩,7,false⟩,⟨⟨#[107,101,101,112,100,105,109,115]⟩,2,false⟩,jat])) w' e∧w.grownBy w' none:=by
     have e1:jaw ⟨#[82,101,100,117,99,101,83,117,109]⟩=false:=by simp only [jaw,jaj];rfl
     obtain ⟨w0,hw0⟩ : ∃ w0,w0=w.alloc (.cells #[.int .i64 0,.int .i64 0,.slice none 0 0] 134):=⟨_,rfl⟩
     have g0:w.grownBy w0 none:=by rw [hw0];exact jab _ _
     have b0:=heap_alloc_new w (.cells #[.int .i64 0,.int .i64 0,.slice none 0 0] 134);rw [← hw0] at b0;have B0:=jac b0;have OO:=jac (jar ⟨#[82,101,100,117,99,101,83,117,109]⟩ w0 (hl.more g0));rw [e1] at OO;clear hl b0 e1;go_enter Tryz.func98,Tryz.ntmps98;go_wp2_with fail;rw [← hw0];clear hw0;refine OO.out.mono ?_;rintro e v0 ⟨rfl,h0⟩;go_wp2_with fail;refine (jaV _ _ _).mono ?_;rintro e v1 ⟨rfl,h1'⟩;have h1:=jaa h0 h1';go_wp2_with fail;refine (jaV _ _ _).mono ?_;rintro e v2 ⟨rfl,h2'⟩;have h2:=jaa h1 h2';go_wp2_with fail;refine (jau _ _ _ [⟨⟨#[97,120,101,115]⟩,7,false⟩,⟨⟨#[107,101,101,112,100,105,109,115]⟩,2,false⟩] _ (Or.inr ⟨_,_,rfl,heap_alloc_new _ _,rfl,rfl⟩) (by decide)).mono ?_;rintro e w6 ⟨⟨a,n,c,rfl,ho,hat⟩,hg6⟩;have hlt:=(Array.getElem?_eq_some_iff.1 B0.out).1;have hsk:=h2.size
     have hne:(Value.slice a n c).ownBlock≠some w.heap.size:=fun hh=>by
      rcases hat _ hh with h | h
      ·have:v2.heap.size=w.heap.size:=by simpa [Value.ownBlock] using h
       omega
      ·have:v2.heap.size+1≤w.heap.size:=by simpa using h
       omega
     obtain ⟨b6,hX,hO,gX⟩:=jax (lo:=1) (hi:=1) g0 B0.out h2 (jab v2 (.cells #[.string ⟨#[97,120,101,115]⟩,.int .i64 7,.bool false,.string ⟨#[107,101,101,112,100,105,109,115]⟩,.int .i64 2,.bool false] 161)) hg6 (fun g e=>by cases e;exact Nat.le_refl _) ho hne;obtain ⟨r0,r1,r2,f0,f1,f2⟩:=jam b6;have HX:=jac hX;have HO:=jac hO;have GX:=jac gX;clear hX hO gX b6 ho hg6 hne hat hlt hsk;go_wp2;refine bodyPost_ret (jas rfl _ _ w.heap.size rfl HX.out) rfl ?_;exact ⟨⟨_,_,_,rfl,HO.out⟩,GX.out⟩
theorem jgt (w:World) (hl:Laid w) :
    Calls Tryz.prog 98 #[.string ⟨#[82,101,100,117,99,101,77,97,120]⟩] w fun e w'=>ja5 (some (1,1,[⟨⟨#[97,120,101,115]⟩,7,false⟩,⟨⟨#[107,101,101,112,100,105,109,115]⟩,2,false⟩,jat])) w' e∧w.grownBy w' none:=by
     have e1:jaw ⟨#[82,101,100,117,99,101,77,97,120]⟩=false:=by simp only [jaw,jaj];rfl
     obtain ⟨w0,hw0⟩ : ∃ w0,w0=w.alloc (.cells #[.int .i64 0,.int .i64 0,.slice none 0 0] 134):=⟨_,rfl⟩
     have g0:w.grownBy w0 none:=by rw [hw0];exact jab _ _
     have b0:=heap_alloc_new w (.cells #[.int .i64 0,.int .i64 0,.slice none 0 0] 134);rw [← hw0] at b0;have B0:=jac b0;have OO:=jac (jar ⟨#[82,101,100,117,99,101,77,97,120]⟩ w0 (hl.more g0));rw [e1] at OO;clear hl b0 e1;go_enter Tryz.func98,Tryz.ntmps98;go_wp2_with fail;rw [← hw0];clear hw0;refine OO.out.mono ?_;rintro e v0 ⟨rfl,h0⟩;go_wp2_with fail;refine (jaV _ _ _).mono ?_;rintro e v1 ⟨rfl,h1'⟩;have h1:=jaa h0 h1';go_wp2_with fail;refine (jaV _ _ _).mono ?_;rintro e v2 ⟨rfl,h2'⟩;have h2:=jaa h1 h2';go_wp2_with fail;refine (jau _ _ _ [⟨⟨#[97,120,101,115]⟩,7,false⟩,⟨⟨#[107,101,101,112,100,105,109,115]⟩,2,false⟩] _ (Or.inr ⟨_,_,rfl,heap_alloc_new _ _,rfl,rfl⟩) (by decide)).mono ?_;rintro e w6 ⟨⟨a,n,c,rfl,ho,hat⟩,hg6⟩;have hlt:=(Array.getElem?_eq_some_iff.1 B0.out).1;have hsk:=h2.size
     have hne:(Value.slice a n c).ownBlock≠some w.heap.size:=fun hh=>by
      rcases hat _ hh with h | h
      ·have:v2.heap.size=w.heap.size:=by simpa [Value.ownBlock] using h
       omega
      ·have:v2.heap.size+1≤w.heap.size:=by simpa using h
       omega
     obtain ⟨b6,hX,hO,gX⟩:=jax (lo:=1) (hi:=1) g0 B0.out h2 (jab v2 (.cells #[.string ⟨#[97,120,101,115]⟩,.int .i64 7,.bool false,.string ⟨#[107,101,101,112,100,105,109,115]⟩,.int .i64 2,.bool false] 161)) hg6 (fun g e=>by cases e;exact Nat.le_refl _) ho hne;obtain ⟨r0,r1,r2,f0,f1,f2⟩:=jam b6;have HX:=jac hX;have HO:=jac hO;have GX:=jac gX;clear hX hO gX b6 ho hg6 hne hat hlt hsk;go_wp2;refine bodyPost_ret (jas rfl _ _ w.heap.size rfl HX.out) rfl ?_;exact ⟨⟨_,_,_,rfl,HO.out⟩,GX.out⟩
theorem jfH (w:World) (hl:Laid w) :
    Calls Tryz.prog 98 #[.string ⟨#[82,101,100,117,99,101,77,101,97,110]⟩] w fun e w'=>ja5 (some (1,1,[⟨⟨#[97,120,101,115]⟩,7,false⟩,⟨⟨#[107,101,101,112,100,105,109,115]⟩,2,false⟩,jat])) w' e∧w.grownBy w' none:=by
     have e1:jaw ⟨#[82,101,100,117,99,101,77,101,97,110]⟩=false:=by simp only [jaw,jaj];rfl
     obtain ⟨w0,hw0⟩ : ∃ w0,w0=w.alloc (.cells #[.int .i64 0,.int .i64 0,.slice none 0 0] 134):=⟨_,rfl⟩
     have g0:w.grownBy w0 none:=by rw [hw0];exact jab _ _
     have b0:=heap_alloc_new w (.cells #[.int .i64 0,.int .i64 0,.slice none 0 0] 134);rw [← hw0] at b0;have B0:=jac b0;have OO:=jac (jar ⟨#[82,101,100,117,99,101,77,101,97,110]⟩ w0 (hl.more g0));rw [e1] at OO;clear hl b0 e1;go_enter Tryz.func98,Tryz.ntmps98;go_wp2_with fail;rw [← hw0];clear hw0;refine OO.out.mono ?_;rintro e v0 ⟨rfl,h0⟩;go_wp2_with fail;refine (jaV _ _ _).mono ?_;rintro e v1 ⟨rfl,h1'⟩;have h1:=jaa h0 h1';go_wp2_with fail;refine (jaV _ _ _).mono ?_;rintro e v2 ⟨rfl,h2'⟩;have h2:=jaa h1 h2';go_wp2_with fail;refine (jau _ _ _ [⟨⟨#[97,120,101,115]⟩,7,false⟩,⟨⟨#[107,101,101,112,100,105,109,115]⟩,2,false⟩] _ (Or.inr ⟨_,_,rfl,heap_alloc_new _ _,rfl,rfl⟩) (by decide)).mono ?_;rintro e w6 ⟨⟨a,n,c,rfl,ho,hat⟩,hg6⟩;have hlt:=(Array.getElem?_eq_some_iff.1 B0.out).1;have hsk:=h2.size
     have hne:(Value.slice a n c).ownBlock≠some w.heap.size:=fun hh=>by
      rcases hat _ hh with h | h
      ·have:v2.heap.size=w.heap.size:=by simpa [Value.ownBlock] using h
       omega
      ·have:v2.heap.size+1≤w.heap.size:=by simpa using h
       omega
     obtain ⟨b6,hX,hO,gX⟩:=jax (lo:=1) (hi:=1) g0 B0.out h2 (jab v2 (.cells #[.string ⟨#[97,120,101,115]⟩,.int .i64 7,.bool false,.string ⟨#[107,101,101,112,100,105,109,115]⟩,.int .i64 2,.bool false] 161)) hg6 (fun g e=>by cases e;exact Nat.le_refl _) ho hne;obtain ⟨r0,r1,r2,f0,f1,f2⟩:=jam b6;have HX:=jac hX;have HO:=jac hO;have GX:=jac gX;clear hX hO gX b6 ho hg6 hne hat hlt hsk;go_wp2;refine bodyPost_ret (jas rfl _ _ w.heap.size rfl HX.out) rfl ?_;exact ⟨⟨_,_,_,rfl,HO.out⟩,GX.out⟩
theorem jjN (w:World) (hl:Laid w) :
    Calls Tryz.prog 98 #[.string ⟨#[65,114,103,77,97,120]⟩] w fun e w'=>ja5 (some (1,1,[⟨⟨#[97,120,105,115]⟩,2,false⟩,⟨⟨#[107,101,101,112,100,105,109,115]⟩,2,false⟩,jat])) w' e∧w.grownBy w' none:=by
     have e1:jaw ⟨#[65,114,103,77,97,120]⟩=false:=by simp only [jaw,jaj];rfl
     obtain ⟨w0,hw0⟩ : ∃ w0,w0=w.alloc (.cells #[.int .i64 0,.int .i64 0,.slice none 0 0] 134):=⟨_,rfl⟩
     have g0:w.grownBy w0 none:=by rw [hw0];exact jab _ _
     have b0:=heap_alloc_new w (.cells #[.int .i64 0,.int .i64 0,.slice none 0 0] 134);rw [← hw0] at b0;have B0:=jac b0;have OO:=jac (jar ⟨#[65,114,103,77,97,120]⟩ w0 (hl.more g0));rw [e1] at OO;clear hl b0 e1;go_enter Tryz.func98,Tryz.ntmps98;go_wp2_with fail;rw [← hw0];clear hw0;refine OO.out.mono ?_;rintro e v0 ⟨rfl,h0⟩;go_wp2_with fail;refine (jaV _ _ _).mono ?_;rintro e v1 ⟨rfl,h1'⟩;have h1:=jaa h0 h1';go_wp2_with fail;refine (jaV _ _ _).mono ?_;rintro e v2 ⟨rfl,h2'⟩;have h2:=jaa h1 h2';go_wp2_with fail;refine (jau _ _ _ [⟨⟨#[97,120,105,115]⟩,2,false⟩,⟨⟨#[107,101,101,112,100,105,109,115]⟩,2,false⟩] _ (Or.inr ⟨_,_,rfl,heap_alloc_new _ _,rfl,rfl⟩) (by decide)).mono ?_;rintro e w6 ⟨⟨a,n,c,rfl,ho,hat⟩,hg6⟩;have hlt:=(Array.getElem?_eq_some_iff.1 B0.out).1;have hsk:=h2.size
     have hne:(Value.slice a n c).ownBlock≠some w.heap.size:=fun hh=>by
      rcases hat _ hh with h | h
      ·have:v2.heap.size=w.heap.size:=by simpa [Value.ownBlock] using h
       omega
      ·have:v2.heap.size+1≤w.heap.size:=by simpa using h
       omega
     obtain ⟨b6,hX,hO,gX⟩:=jax (lo:=1) (hi:=1) g0 B0.out h2 (jab v2 (.cells #[.string ⟨#[97,120,105,115]⟩,.int .i64 2,.bool false,.string ⟨#[107,101,101,112,100,105,109,115]⟩,.int .i64 2,.bool false] 161)) hg6 (fun g e=>by cases e;exact Nat.le_refl _) ho hne;obtain ⟨r0,r1,r2,f0,f1,f2⟩:=jam b6;have HX:=jac hX;have HO:=jac hO;have GX:=jac gX;clear hX hO gX b6 ho hg6 hne hat hlt hsk;go_wp2;refine bodyPost_ret (jas rfl _ _ w.heap.size rfl HX.out) rfl ?_;exact ⟨⟨_,_,_,rfl,HO.out⟩,GX.out⟩
theorem jiE (w:World) (hl:Laid w) :
    Calls Tryz.prog 98 #[.string ⟨#[82,101,115,104,97,112,101]⟩] w fun e w'=>ja5 (some (1,1,[⟨⟨#[115,104,97,112,101]⟩,7,true⟩,jat])) w' e∧w.grownBy w' none:=by
     have e1:jaw ⟨#[82,101,115,104,97,112,101]⟩=false:=by simp only [jaw,jaj];rfl
     obtain ⟨w0,hw0⟩ : ∃ w0,w0=w.alloc (.cells #[.int .i64 0,.int .i64 0,.slice none 0 0] 134):=⟨_,rfl⟩
     have g0:w.grownBy w0 none:=by rw [hw0];exact jab _ _
     have b0:=heap_alloc_new w (.cells #[.int .i64 0,.int .i64 0,.slice none 0 0] 134);rw [← hw0] at b0;have B0:=jac b0;have OO:=jac (jar ⟨#[82,101,115,104,97,112,101]⟩ w0 (hl.more g0));rw [e1] at OO;clear hl b0 e1;go_enter Tryz.func98,Tryz.ntmps98;go_wp2_with fail;rw [← hw0];clear hw0;refine OO.out.mono ?_;rintro e v0 ⟨rfl,h0⟩;go_wp2_with fail;refine (jbO _ _ _).mono ?_;rintro e v1 ⟨rfl,h1'⟩;have h1:=jaa h0 h1';go_wp2_with fail;refine (jau _ _ _ [⟨⟨#[115,104,97,112,101]⟩,7,true⟩] _ (Or.inr ⟨_,_,rfl,heap_alloc_new _ _,rfl,rfl⟩) (by decide)).mono ?_;rintro e w6 ⟨⟨a,n,c,rfl,ho,hat⟩,hg6⟩;have hlt:=(Array.getElem?_eq_some_iff.1 B0.out).1;have hsk:=h1.size
     have hne:(Value.slice a n c).ownBlock≠some w.heap.size:=fun hh=>by
      rcases hat _ hh with h | h
      ·have:v1.heap.size=w.heap.size:=by simpa [Value.ownBlock] using h
       omega
      ·have:v1.heap.size+1≤w.heap.size:=by simpa using h
       omega
     obtain ⟨b6,hX,hO,gX⟩:=jax (lo:=1) (hi:=1) g0 B0.out h1 (jab v1 (.cells #[.string ⟨#[115,104,97,112,101]⟩,.int .i64 7,.bool true] 161)) hg6 (fun g e=>by cases e;exact Nat.le_refl _) ho hne;obtain ⟨r0,r1,r2,f0,f1,f2⟩:=jam b6;have HX:=jac hX;have HO:=jac hO;have GX:=jac gX;clear hX hO gX b6 ho hg6 hne hat hlt hsk;go_wp2;refine bodyPost_ret (jas rfl _ _ w.heap.size rfl HX.out) rfl ?_;exact ⟨⟨_,_,_,rfl,HO.out⟩,GX.out⟩
theorem jjO (w:World) (hl:Laid w) :
    Calls Tryz.prog 98 #[.string ⟨#[69,120,112,97,110,100]⟩] w fun e w'=>ja5 (some (1,1,[⟨⟨#[115,104,97,112,101]⟩,7,true⟩,jat])) w' e∧w.grownBy w' none:=by
     have e1:jaw ⟨#[69,120,112,97,110,100]⟩=false:=by simp only [jaw,jaj];rfl
     obtain ⟨w0,hw0⟩ : ∃ w0,w0=w.alloc (.cells #[.int .i64 0,.int .i64 0,.slice none 0 0] 134):=⟨_,rfl⟩
     have g0:w.grownBy w0 none:=by rw [hw0];exact jab _ _
     have b0:=heap_alloc_new w (.cells #[.int .i64 0,.int .i64 0,.slice none 0 0] 134);rw [← hw0] at b0;have B0:=jac b0;have OO:=jac (jar ⟨#[69,120,112,97,110,100]⟩ w0 (hl.more g0));rw [e1] at OO;clear hl b0 e1;go_enter Tryz.func98,Tryz.ntmps98;go_wp2_with fail;rw [← hw0];clear hw0;refine OO.out.mono ?_;rintro e v0 ⟨rfl,h0⟩;go_wp2_with fail;refine (jbO _ _ _).mono ?_;rintro e v1 ⟨rfl,h1'⟩;have h1:=jaa h0 h1';go_wp2_with fail;refine (jau _ _ _ [⟨⟨#[115,104,97,112,101]⟩,7,true⟩] _ (Or.inr ⟨_,_,rfl,heap_alloc_new _ _,rfl,rfl⟩) (by decide)).mono ?_;rintro e w6 ⟨⟨a,n,c,rfl,ho,hat⟩,hg6⟩;have hlt:=(Array.getElem?_eq_some_iff.1 B0.out).1;have hsk:=h1.size
     have hne:(Value.slice a n c).ownBlock≠some w.heap.size:=fun hh=>by
      rcases hat _ hh with h | h
      ·have:v1.heap.size=w.heap.size:=by simpa [Value.ownBlock] using h
       omega
      ·have:v1.heap.size+1≤w.heap.size:=by simpa using h
       omega
     obtain ⟨b6,hX,hO,gX⟩:=jax (lo:=1) (hi:=1) g0 B0.out h1 (jab v1 (.cells #[.string ⟨#[115,104,97,112,101]⟩,.int .i64 7,.bool true] 161)) hg6 (fun g e=>by cases e;exact Nat.le_refl _) ho hne;obtain ⟨r0,r1,r2,f0,f1,f2⟩:=jam b6;have HX:=jac hX;have HO:=jac hO;have GX:=jac gX;clear hX hO gX b6 ho hg6 hne hat hlt hsk;go_wp2;refine bodyPost_ret (jas rfl _ _ w.heap.size rfl HX.out) rfl ?_;exact ⟨⟨_,_,_,rfl,HO.out⟩,GX.out⟩
theorem jgu (w:World) (hl:Laid w) :
    Calls Tryz.prog 98 #[.string ⟨#[84,114,97,110,115,112,111,115,101]⟩] w fun e w'=>ja5 (some (1,1,[⟨⟨#[112,101,114,109]⟩,7,false⟩,jat])) w' e∧w.grownBy w' none:=by
     have e1:jaw ⟨#[84,114,97,110,115,112,111,115,101]⟩=false:=by simp only [jaw,jaj];rfl
     obtain ⟨w0,hw0⟩ : ∃ w0,w0=w.alloc (.cells #[.int .i64 0,.int .i64 0,.slice none 0 0] 134):=⟨_,rfl⟩
     have g0:w.grownBy w0 none:=by rw [hw0];exact jab _ _
     have b0:=heap_alloc_new w (.cells #[.int .i64 0,.int .i64 0,.slice none 0 0] 134);rw [← hw0] at b0;have B0:=jac b0;have OO:=jac (jar ⟨#[84,114,97,110,115,112,111,115,101]⟩ w0 (hl.more g0));rw [e1] at OO;clear hl b0 e1;go_enter Tryz.func98,Tryz.ntmps98;go_wp2_with fail;rw [← hw0];clear hw0;refine OO.out.mono ?_;rintro e v0 ⟨rfl,h0⟩;go_wp2_with fail;refine (jaV _ _ _).mono ?_;rintro e v1 ⟨rfl,h1'⟩;have h1:=jaa h0 h1';go_wp2_with fail;refine (jau _ _ _ [⟨⟨#[112,101,114,109]⟩,7,false⟩] _ (Or.inr ⟨_,_,rfl,heap_alloc_new _ _,rfl,rfl⟩) (by decide)).mono ?_;rintro e w6 ⟨⟨a,n,c,rfl,ho,hat⟩,hg6⟩;have hlt:=(Array.getElem?_eq_some_iff.1 B0.out).1;have hsk:=h1.size
     have hne:(Value.slice a n c).ownBlock≠some w.heap.size:=fun hh=>by
      rcases hat _ hh with h | h
      ·have:v1.heap.size=w.heap.size:=by simpa [Value.ownBlock] using h
       omega
      ·have:v1.heap.size+1≤w.heap.size:=by simpa using h
       omega
     obtain ⟨b6,hX,hO,gX⟩:=jax (lo:=1) (hi:=1) g0 B0.out h1 (jab v1 (.cells #[.string ⟨#[112,101,114,109]⟩,.int .i64 7,.bool false] 161)) hg6 (fun g e=>by cases e;exact Nat.le_refl _) ho hne;obtain ⟨r0,r1,r2,f0,f1,f2⟩:=jam b6;have HX:=jac hX;have HO:=jac hO;have GX:=jac gX;clear hX hO gX b6 ho hg6 hne hat hlt hsk;go_wp2;refine bodyPost_ret (jas rfl _ _ w.heap.size rfl HX.out) rfl ?_;exact ⟨⟨_,_,_,rfl,HO.out⟩,GX.out⟩
theorem jjP (w:World) (hl:Laid w) :
    Calls Tryz.prog 98 #[.string ⟨#[67,111,110,99,97,116]⟩] w fun e w'=>ja5 (some (1,20,[⟨⟨#[97,120,105,115]⟩,2,true⟩,jat])) w' e∧w.grownBy w' none:=by
     have e1:jaw ⟨#[67,111,110,99,97,116]⟩=false:=by simp only [jaw,jaj];rfl
     obtain ⟨w0,hw0⟩ : ∃ w0,w0=w.alloc (.cells #[.int .i64 0,.int .i64 0,.slice none 0 0] 134):=⟨_,rfl⟩
     have g0:w.grownBy w0 none:=by rw [hw0];exact jab _ _
     have b0:=heap_alloc_new w (.cells #[.int .i64 0,.int .i64 0,.slice none 0 0] 134);rw [← hw0] at b0;have B0:=jac b0;have OO:=jac (jar ⟨#[67,111,110,99,97,116]⟩ w0 (hl.more g0));rw [e1] at OO;clear hl b0 e1;go_enter Tryz.func98,Tryz.ntmps98;go_wp2_with fail;rw [← hw0];clear hw0;refine OO.out.mono ?_;rintro e v0 ⟨rfl,h0⟩;go_wp2_with fail;refine (jbO _ _ _).mono ?_;rintro e v1 ⟨rfl,h1'⟩;have h1:=jaa h0 h1';go_wp2_with fail;refine (jau _ _ _ [⟨⟨#[97,120,105,115]⟩,2,true⟩] _ (Or.inr ⟨_,_,rfl,heap_alloc_new _ _,rfl,rfl⟩) (by decide)).mono ?_;rintro e w6 ⟨⟨a,n,c,rfl,ho,hat⟩,hg6⟩;have hlt:=(Array.getElem?_eq_some_iff.1 B0.out).1;have hsk:=h1.size
     have hne:(Value.slice a n c).ownBlock≠some w.heap.size:=fun hh=>by
      rcases hat _ hh with h | h
      ·have:v1.heap.size=w.heap.size:=by simpa [Value.ownBlock] using h
       omega
      ·have:v1.heap.size+1≤w.heap.size:=by simpa using h
       omega
     obtain ⟨b6,hX,hO,gX⟩:=jax (lo:=1) (hi:=20) g0 B0.out h1 (jab v1 (.cells #[.string ⟨#[97,120,105,115]⟩,.int .i64 2,.bool true] 161)) hg6 (fun g e=>by cases e;exact Nat.le_refl _) ho hne;obtain ⟨r0,r1,r2,f0,f1,f2⟩:=jam b6;have HX:=jac hX;have HO:=jac hO;have GX:=jac gX;clear hX hO gX b6 ho hg6 hne hat hlt hsk;go_wp2;refine bodyPost_ret (jas rfl _ _ w.heap.size rfl HX.out) rfl ?_;exact ⟨⟨_,_,_,rfl,HO.out⟩,GX.out⟩
theorem jlM (w:World) (hl:Laid w) :
    Calls Tryz.prog 98 #[.string ⟨#[83,108,105,99,101]⟩] w fun e w'=>ja5 (some (1,1,[⟨⟨#[115,116,97,114,116,115]⟩,7,true⟩,⟨⟨#[101,110,100,115]⟩,7,true⟩,⟨⟨#[97,120,101,115]⟩,7,false⟩,jat])) w' e∧w.grownBy w' none:=by
     have e1:jaw ⟨#[83,108,105,99,101]⟩=false:=by simp only [jaw,jaj];rfl
     obtain ⟨w0,hw0⟩ : ∃ w0,w0=w.alloc (.cells #[.int .i64 0,.int .i64 0,.slice none 0 0] 134):=⟨_,rfl⟩
     have g0:w.grownBy w0 none:=by rw [hw0];exact jab _ _
     have b0:=heap_alloc_new w (.cells #[.int .i64 0,.int .i64 0,.slice none 0 0] 134);rw [← hw0] at b0;have B0:=jac b0;have OO:=jac (jar ⟨#[83,108,105,99,101]⟩ w0 (hl.more g0));rw [e1] at OO;clear hl b0 e1;go_enter Tryz.func98,Tryz.ntmps98;go_wp2_with fail;rw [← hw0];clear hw0;refine OO.out.mono ?_;rintro e v0 ⟨rfl,h0⟩;go_wp2_with fail;refine (jbO _ _ _).mono ?_;rintro e v1 ⟨rfl,h1'⟩;have h1:=jaa h0 h1';go_wp2_with fail;refine (jbO _ _ _).mono ?_;rintro e v2 ⟨rfl,h2'⟩;have h2:=jaa h1 h2';go_wp2_with fail;refine (jaV _ _ _).mono ?_;rintro e v3 ⟨rfl,h3'⟩;have h3:=jaa h2 h3';go_wp2_with fail;refine (jau _ _ _ [⟨⟨#[115,116,97,114,116,115]⟩,7,true⟩,⟨⟨#[101,110,100,115]⟩,7,true⟩,⟨⟨#[97,120,101,115]⟩,7,false⟩] _ (Or.inr ⟨_,_,rfl,heap_alloc_new _ _,rfl,rfl⟩) (by decide)).mono ?_;rintro e w6 ⟨⟨a,n,c,rfl,ho,hat⟩,hg6⟩;have hlt:=(Array.getElem?_eq_some_iff.1 B0.out).1;have hsk:=h3.size
     have hne:(Value.slice a n c).ownBlock≠some w.heap.size:=fun hh=>by
      rcases hat _ hh with h | h
      ·have:v3.heap.size=w.heap.size:=by simpa [Value.ownBlock] using h
       omega
      ·have:v3.heap.size+1≤w.heap.size:=by simpa using h
       omega
     obtain ⟨b6,hX,hO,gX⟩:=jax (lo:=1) (hi:=1) g0 B0.out h3 (jab v3 (.cells #[.string ⟨#[115,116,97,114,116,115]⟩,.int .i64 7,.bool true,.string ⟨#[101,110,100,115]⟩,.int .i64 7,.bool true,.string ⟨#[97,120,101,115]⟩,.int .i64 7,.bool false] 161)) hg6 (fun g e=>by cases e;exact Nat.le_refl _) ho hne;obtain ⟨r0,r1,r2,f0,f1,f2⟩:=jam b6;have HX:=jac hX;have HO:=jac hO;have GX:=jac gX;clear hX hO gX b6 ho hg6 hne hat hlt hsk;go_wp2;refine bodyPost_ret (jas rfl _ _ w.heap.size rfl HX.out) rfl ?_;exact ⟨⟨_,_,_,rfl,HO.out⟩,GX.out⟩
theorem jjQ (w:World) (hl:Laid w) :
    Calls Tryz.prog 98 #[.string ⟨#[71,97,116,104,101,114]⟩] w fun e w'=>ja5 (some (2,2,[⟨⟨#[97,120,105,115]⟩,2,false⟩,jat])) w' e∧w.grownBy w' none:=by
     have e1:jaw ⟨#[71,97,116,104,101,114]⟩=false:=by simp only [jaw,jaj];rfl
     obtain ⟨w0,hw0⟩ : ∃ w0,w0=w.alloc (.cells #[.int .i64 0,.int .i64 0,.slice none 0 0] 134):=⟨_,rfl⟩
     have g0:w.grownBy w0 none:=by rw [hw0];exact jab _ _
     have b0:=heap_alloc_new w (.cells #[.int .i64 0,.int .i64 0,.slice none 0 0] 134);rw [← hw0] at b0;have B0:=jac b0;have OO:=jac (jar ⟨#[71,97,116,104,101,114]⟩ w0 (hl.more g0));rw [e1] at OO;clear hl b0 e1;go_enter Tryz.func98,Tryz.ntmps98;go_wp2_with fail;rw [← hw0];clear hw0;refine OO.out.mono ?_;rintro e v0 ⟨rfl,h0⟩;go_wp2_with fail;refine (jaV _ _ _).mono ?_;rintro e v1 ⟨rfl,h1'⟩;have h1:=jaa h0 h1';go_wp2_with fail;refine (jau _ _ _ [⟨⟨#[97,120,105,115]⟩,2,false⟩] _ (Or.inr ⟨_,_,rfl,heap_alloc_new _ _,rfl,rfl⟩) (by decide)).mono ?_;rintro e w6 ⟨⟨a,n,c,rfl,ho,hat⟩,hg6⟩;have hlt:=(Array.getElem?_eq_some_iff.1 B0.out).1;have hsk:=h1.size
     have hne:(Value.slice a n c).ownBlock≠some w.heap.size:=fun hh=>by
      rcases hat _ hh with h | h
      ·have:v1.heap.size=w.heap.size:=by simpa [Value.ownBlock] using h
       omega
      ·have:v1.heap.size+1≤w.heap.size:=by simpa using h
       omega
     obtain ⟨b6,hX,hO,gX⟩:=jax (lo:=2) (hi:=2) g0 B0.out h1 (jab v1 (.cells #[.string ⟨#[97,120,105,115]⟩,.int .i64 2,.bool false] 161)) hg6 (fun g e=>by cases e;exact Nat.le_refl _) ho hne;obtain ⟨r0,r1,r2,f0,f1,f2⟩:=jam b6;have HX:=jac hX;have HO:=jac hO;have GX:=jac gX;clear hX hO gX b6 ho hg6 hne hat hlt hsk;go_wp2;refine bodyPost_ret (jas rfl _ _ w.heap.size rfl HX.out) rfl ?_;exact ⟨⟨_,_,_,rfl,HO.out⟩,GX.out⟩
end Go.Proofs.YteigfipgmghgmaaGreatDoor
namespace Go.Proofs.YteigfipgmghgmaaGreatDoor
open Go.RowKit
theorem jqq (w:World) (hl:Laid w) :
    Calls Tryz.prog 98 #[.string ⟨#[80,97,100]⟩] w fun e w'=>ja5 (some (1,1,[⟨⟨#[112,97,100,115]⟩,7,true⟩,⟨⟨#[118,97,108,117,101]⟩,1,false⟩,jat])) w' e∧w.grownBy w' none:=by
     have e1:jaw ⟨#[80,97,100]⟩=false:=by simp only [jaw,jaj];rfl
     obtain ⟨w0,hw0⟩ : ∃ w0,w0=w.alloc (.cells #[.int .i64 0,.int .i64 0,.slice none 0 0] 134):=⟨_,rfl⟩
     have g0:w.grownBy w0 none:=by rw [hw0];exact jab _ _
     have b0:=heap_alloc_new w (.cells #[.int .i64 0,.int .i64 0,.slice none 0 0] 134);rw [← hw0] at b0;have B0:=jac b0;have OO:=jac (jar ⟨#[80,97,100]⟩ w0 (hl.more g0));rw [e1] at OO;clear hl b0 e1;go_enter Tryz.func98,Tryz.ntmps98;go_wp2_with fail;rw [← hw0];clear hw0;refine OO.out.mono ?_;rintro e v0 ⟨rfl,h0⟩;go_wp2_with fail;refine (jbO _ _ _).mono ?_;rintro e v1 ⟨rfl,h1'⟩;have h1:=jaa h0 h1';go_wp2_with fail;refine (jaV _ _ _).mono ?_;rintro e v2 ⟨rfl,h2'⟩;have h2:=jaa h1 h2';go_wp2_with fail;refine (jau _ _ _ [⟨⟨#[112,97,100,115]⟩,7,true⟩,⟨⟨#[118,97,108,117,101]⟩,1,false⟩] _ (Or.inr ⟨_,_,rfl,heap_alloc_new _ _,rfl,rfl⟩) (by decide)).mono ?_;rintro e w6 ⟨⟨a,n,c,rfl,ho,hat⟩,hg6⟩;have hlt:=(Array.getElem?_eq_some_iff.1 B0.out).1;have hsk:=h2.size
     have hne:(Value.slice a n c).ownBlock≠some w.heap.size:=fun hh=>by
      rcases hat _ hh with h | h
      ·have:v2.heap.size=w.heap.size:=by simpa [Value.ownBlock] using h
       omega
      ·have:v2.heap.size+1≤w.heap.size:=by simpa using h
       omega
     obtain ⟨b6,hX,hO,gX⟩:=jax (lo:=1) (hi:=1) g0 B0.out h2 (jab v2 (.cells #[.string ⟨#[112,97,100,115]⟩,.int .i64 7,.bool true,.string ⟨#[118,97,108,117,101]⟩,.int .i64 1,.bool false] 161)) hg6 (fun g e=>by cases e;exact Nat.le_refl _) ho hne;obtain ⟨r0,r1,r2,f0,f1,f2⟩:=jam b6;have HX:=jac hX;have HO:=jac hO;have GX:=jac gX;clear hX hO gX b6 ho hg6 hne hat hlt hsk;go_wp2;refine bodyPost_ret (jas rfl _ _ w.heap.size rfl HX.out) rfl ?_;exact ⟨⟨_,_,_,rfl,HO.out⟩,GX.out⟩
theorem jiF (w:World) (hl:Laid w) :
    Calls Tryz.prog 98 #[.string ⟨#[83,113,117,101,101,122,101]⟩] w fun e w'=>ja5 (some (1,1,[⟨⟨#[97,120,101,115]⟩,7,true⟩,jat])) w' e∧w.grownBy w' none:=by
     have e1:jaw ⟨#[83,113,117,101,101,122,101]⟩=false:=by simp only [jaw,jaj];rfl
     obtain ⟨w0,hw0⟩ : ∃ w0,w0=w.alloc (.cells #[.int .i64 0,.int .i64 0,.slice none 0 0] 134):=⟨_,rfl⟩
     have g0:w.grownBy w0 none:=by rw [hw0];exact jab _ _
     have b0:=heap_alloc_new w (.cells #[.int .i64 0,.int .i64 0,.slice none 0 0] 134);rw [← hw0] at b0;have B0:=jac b0;have OO:=jac (jar ⟨#[83,113,117,101,101,122,101]⟩ w0 (hl.more g0));rw [e1] at OO;clear hl b0 e1;go_enter Tryz.func98,Tryz.ntmps98;go_wp2_with fail;rw [← hw0];clear hw0;refine OO.out.mono ?_;rintro e v0 ⟨rfl,h0⟩;go_wp2_with fail;refine (jbO _ _ _).mono ?_;rintro e v1 ⟨rfl,h1'⟩;have h1:=jaa h0 h1';go_wp2_with fail;refine (jau _ _ _ [⟨⟨#[97,120,101,115]⟩,7,true⟩] _ (Or.inr ⟨_,_,rfl,heap_alloc_new _ _,rfl,rfl⟩) (by decide)).mono ?_;rintro e w6 ⟨⟨a,n,c,rfl,ho,hat⟩,hg6⟩;have hlt:=(Array.getElem?_eq_some_iff.1 B0.out).1;have hsk:=h1.size
     have hne:(Value.slice a n c).ownBlock≠some w.heap.size:=fun hh=>by
      rcases hat _ hh with h | h
      ·have:v1.heap.size=w.heap.size:=by simpa [Value.ownBlock] using h
       omega
      ·have:v1.heap.size+1≤w.heap.size:=by simpa using h
       omega
     obtain ⟨b6,hX,hO,gX⟩:=jax (lo:=1) (hi:=1) g0 B0.out h1 (jab v1 (.cells #[.string ⟨#[97,120,101,115]⟩,.int .i64 7,.bool true] 161)) hg6 (fun g e=>by cases e;exact Nat.le_refl _) ho hne;obtain ⟨r0,r1,r2,f0,f1,f2⟩:=jam b6;have HX:=jac hX;have HO:=jac hO;have GX:=jac gX;clear hX hO gX b6 ho hg6 hne hat hlt hsk;go_wp2;refine bodyPost_ret (jas rfl _ _ w.heap.size rfl HX.out) rfl ?_;exact ⟨⟨_,_,_,rfl,HO.out⟩,GX.out⟩
theorem jgv (w:World) (hl:Laid w) :
    Calls Tryz.prog 98 #[.string ⟨#[85,110,115,113,117,101,101,122,101]⟩] w fun e w'=>ja5 (some (1,1,[⟨⟨#[97,120,101,115]⟩,7,true⟩,jat])) w' e∧w.grownBy w' none:=by
     have e1:jaw ⟨#[85,110,115,113,117,101,101,122,101]⟩=false:=by simp only [jaw,jaj];rfl
     obtain ⟨w0,hw0⟩ : ∃ w0,w0=w.alloc (.cells #[.int .i64 0,.int .i64 0,.slice none 0 0] 134):=⟨_,rfl⟩
     have g0:w.grownBy w0 none:=by rw [hw0];exact jab _ _
     have b0:=heap_alloc_new w (.cells #[.int .i64 0,.int .i64 0,.slice none 0 0] 134);rw [← hw0] at b0;have B0:=jac b0;have OO:=jac (jar ⟨#[85,110,115,113,117,101,101,122,101]⟩ w0 (hl.more g0));rw [e1] at OO;clear hl b0 e1;go_enter Tryz.func98,Tryz.ntmps98;go_wp2_with fail;rw [← hw0];clear hw0;refine OO.out.mono ?_;rintro e v0 ⟨rfl,h0⟩;go_wp2_with fail;refine (jbO _ _ _).mono ?_;rintro e v1 ⟨rfl,h1'⟩;have h1:=jaa h0 h1';go_wp2_with fail;refine (jau _ _ _ [⟨⟨#[97,120,101,115]⟩,7,true⟩] _ (Or.inr ⟨_,_,rfl,heap_alloc_new _ _,rfl,rfl⟩) (by decide)).mono ?_;rintro e w6 ⟨⟨a,n,c,rfl,ho,hat⟩,hg6⟩;have hlt:=(Array.getElem?_eq_some_iff.1 B0.out).1;have hsk:=h1.size
     have hne:(Value.slice a n c).ownBlock≠some w.heap.size:=fun hh=>by
      rcases hat _ hh with h | h
      ·have:v1.heap.size=w.heap.size:=by simpa [Value.ownBlock] using h
       omega
      ·have:v1.heap.size+1≤w.heap.size:=by simpa using h
       omega
     obtain ⟨b6,hX,hO,gX⟩:=jax (lo:=1) (hi:=1) g0 B0.out h1 (jab v1 (.cells #[.string ⟨#[97,120,101,115]⟩,.int .i64 7,.bool true] 161)) hg6 (fun g e=>by cases e;exact Nat.le_refl _) ho hne;obtain ⟨r0,r1,r2,f0,f1,f2⟩:=jam b6;have HX:=jac hX;have HO:=jac hO;have GX:=jac gX;clear hX hO gX b6 ho hg6 hne hat hlt hsk;go_wp2;refine bodyPost_ret (jas rfl _ _ w.heap.size rfl HX.out) rfl ?_;exact ⟨⟨_,_,_,rfl,HO.out⟩,GX.out⟩
theorem jiG (w:World) (hl:Laid w) :
    Calls Tryz.prog 98 #[.string ⟨#[70,108,97,116,116,101,110]⟩] w fun e w'=>ja5 (some (1,1,[⟨⟨#[97,120,105,115]⟩,2,false⟩,jat])) w' e∧w.grownBy w' none:=by
     have e1:jaw ⟨#[70,108,97,116,116,101,110]⟩=false:=by simp only [jaw,jaj];rfl
     obtain ⟨w0,hw0⟩ : ∃ w0,w0=w.alloc (.cells #[.int .i64 0,.int .i64 0,.slice none 0 0] 134):=⟨_,rfl⟩
     have g0:w.grownBy w0 none:=by rw [hw0];exact jab _ _
     have b0:=heap_alloc_new w (.cells #[.int .i64 0,.int .i64 0,.slice none 0 0] 134);rw [← hw0] at b0;have B0:=jac b0;have OO:=jac (jar ⟨#[70,108,97,116,116,101,110]⟩ w0 (hl.more g0));rw [e1] at OO;clear hl b0 e1;go_enter Tryz.func98,Tryz.ntmps98;go_wp2_with fail;rw [← hw0];clear hw0;refine OO.out.mono ?_;rintro e v0 ⟨rfl,h0⟩;go_wp2_with fail;refine (jaV _ _ _).mono ?_;rintro e v1 ⟨rfl,h1'⟩;have h1:=jaa h0 h1';go_wp2_with fail;refine (jau _ _ _ [⟨⟨#[97,120,105,115]⟩,2,false⟩] _ (Or.inr ⟨_,_,rfl,heap_alloc_new _ _,rfl,rfl⟩) (by decide)).mono ?_;rintro e w6 ⟨⟨a,n,c,rfl,ho,hat⟩,hg6⟩;have hlt:=(Array.getElem?_eq_some_iff.1 B0.out).1;have hsk:=h1.size
     have hne:(Value.slice a n c).ownBlock≠some w.heap.size:=fun hh=>by
      rcases hat _ hh with h | h
      ·have:v1.heap.size=w.heap.size:=by simpa [Value.ownBlock] using h
       omega
      ·have:v1.heap.size+1≤w.heap.size:=by simpa using h
       omega
     obtain ⟨b6,hX,hO,gX⟩:=jax (lo:=1) (hi:=1) g0 B0.out h1 (jab v1 (.cells #[.string ⟨#[97,120,105,115]⟩,.int .i64 2,.bool false] 161)) hg6 (fun g e=>by cases e;exact Nat.le_refl _) ho hne;obtain ⟨r0,r1,r2,f0,f1,f2⟩:=jam b6;have HX:=jac hX;have HO:=jac hO;have GX:=jac gX;clear hX hO gX b6 ho hg6 hne hat hlt hsk;go_wp2;refine bodyPost_ret (jas rfl _ _ w.heap.size rfl HX.out) rfl ?_;exact ⟨⟨_,_,_,rfl,HO.out⟩,GX.out⟩
theorem jiH (w:World) (hl:Laid w) :
    Calls Tryz.prog 98 #[.string ⟨#[83,111,102,116,109,97,120]⟩] w fun e w'=>ja5 (some (1,1,[⟨⟨#[97,120,105,115]⟩,2,false⟩,jat])) w' e∧w.grownBy w' none:=by
     have e1:jaw ⟨#[83,111,102,116,109,97,120]⟩=false:=by simp only [jaw,jaj];rfl
     obtain ⟨w0,hw0⟩ : ∃ w0,w0=w.alloc (.cells #[.int .i64 0,.int .i64 0,.slice none 0 0] 134):=⟨_,rfl⟩
     have g0:w.grownBy w0 none:=by rw [hw0];exact jab _ _
     have b0:=heap_alloc_new w (.cells #[.int .i64 0,.int .i64 0,.slice none 0 0] 134);rw [← hw0] at b0;have B0:=jac b0;have OO:=jac (jar ⟨#[83,111,102,116,109,97,120]⟩ w0 (hl.more g0));rw [e1] at OO;clear hl b0 e1;go_enter Tryz.func98,Tryz.ntmps98;go_wp2_with fail;rw [← hw0];clear hw0;refine OO.out.mono ?_;rintro e v0 ⟨rfl,h0⟩;go_wp2_with fail;refine (jaV _ _ _).mono ?_;rintro e v1 ⟨rfl,h1'⟩;have h1:=jaa h0 h1';go_wp2_with fail;refine (jau _ _ _ [⟨⟨#[97,120,105,115]⟩,2,false⟩] _ (Or.inr ⟨_,_,rfl,heap_alloc_new _ _,rfl,rfl⟩) (by decide)).mono ?_;rintro e w6 ⟨⟨a,n,c,rfl,ho,hat⟩,hg6⟩;have hlt:=(Array.getElem?_eq_some_iff.1 B0.out).1;have hsk:=h1.size
     have hne:(Value.slice a n c).ownBlock≠some w.heap.size:=fun hh=>by
      rcases hat _ hh with h | h
      ·have:v1.heap.size=w.heap.size:=by simpa [Value.ownBlock] using h
       omega
      ·have:v1.heap.size+1≤w.heap.size:=by simpa using h
       omega
     obtain ⟨b6,hX,hO,gX⟩:=jax (lo:=1) (hi:=1) g0 B0.out h1 (jab v1 (.cells #[.string ⟨#[97,120,105,115]⟩,.int .i64 2,.bool false] 161)) hg6 (fun g e=>by cases e;exact Nat.le_refl _) ho hne;obtain ⟨r0,r1,r2,f0,f1,f2⟩:=jam b6;have HX:=jac hX;have HO:=jac hO;have GX:=jac gX;clear hX hO gX b6 ho hg6 hne hat hlt hsk;go_wp2;refine bodyPost_ret (jas rfl _ _ w.heap.size rfl HX.out) rfl ?_;exact ⟨⟨_,_,_,rfl,HO.out⟩,GX.out⟩
theorem jng (w:World) (hl:Laid w) :
    Calls Tryz.prog 98 #[.string ⟨#[71,101,109,109]⟩] w fun e w'=>ja5 (some (2,3,[⟨⟨#[116,114,97,110,115,65]⟩,2,false⟩,⟨⟨#[116,114,97,110,115,66]⟩,2,false⟩,⟨⟨#[97,108,112,104,97]⟩,1,false⟩,⟨⟨#[98,101,116,97]⟩,1,false⟩,jat])) w' e∧w.grownBy w' none:=by
     have e1:jaw ⟨#[71,101,109,109]⟩=false:=by simp only [jaw,jaj];rfl
     obtain ⟨w0,hw0⟩ : ∃ w0,w0=w.alloc (.cells #[.int .i64 0,.int .i64 0,.slice none 0 0] 134):=⟨_,rfl⟩
     have g0:w.grownBy w0 none:=by rw [hw0];exact jab _ _
     have b0:=heap_alloc_new w (.cells #[.int .i64 0,.int .i64 0,.slice none 0 0] 134);rw [← hw0] at b0;have B0:=jac b0;have OO:=jac (jar ⟨#[71,101,109,109]⟩ w0 (hl.more g0));rw [e1] at OO;clear hl b0 e1;go_enter Tryz.func98,Tryz.ntmps98;go_wp2_with fail;rw [← hw0];clear hw0;refine OO.out.mono ?_;rintro e v0 ⟨rfl,h0⟩;go_wp2_with fail;refine (jaV _ _ _).mono ?_;rintro e v1 ⟨rfl,h1'⟩;have h1:=jaa h0 h1';go_wp2_with fail;refine (jaV _ _ _).mono ?_;rintro e v2 ⟨rfl,h2'⟩;have h2:=jaa h1 h2';go_wp2_with fail;refine (jaV _ _ _).mono ?_;rintro e v3 ⟨rfl,h3'⟩;have h3:=jaa h2 h3';go_wp2_with fail;refine (jaV _ _ _).mono ?_;rintro e v4 ⟨rfl,h4'⟩;have h4:=jaa h3 h4';go_wp2_with fail;refine (jau _ _ _ [⟨⟨#[116,114,97,110,115,65]⟩,2,false⟩,⟨⟨#[116,114,97,110,115,66]⟩,2,false⟩,⟨⟨#[97,108,112,104,97]⟩,1,false⟩,⟨⟨#[98,101,116,97]⟩,1,false⟩] _ (Or.inr ⟨_,_,rfl,heap_alloc_new _ _,rfl,rfl⟩) (by decide)).mono ?_;rintro e w6 ⟨⟨a,n,c,rfl,ho,hat⟩,hg6⟩;have hlt:=(Array.getElem?_eq_some_iff.1 B0.out).1;have hsk:=h4.size
     have hne:(Value.slice a n c).ownBlock≠some w.heap.size:=fun hh=>by
      rcases hat _ hh with h | h
      ·have:v4.heap.size=w.heap.size:=by simpa [Value.ownBlock] using h
       omega
      ·have:v4.heap.size+1≤w.heap.size:=by simpa using h
       omega
     obtain ⟨b6,hX,hO,gX⟩:=jax (lo:=2) (hi:=3) g0 B0.out h4 (jab v4 (.cells #[.string ⟨#[116,114,97,110,115,65]⟩,.int .i64 2,.bool false,.string ⟨#[116,114,97,110,115,66]⟩,.int .i64 2,.bool false,.string ⟨#[97,108,112,104,97]⟩,.int .i64 1,.bool false,.string ⟨#[98,101,116,97]⟩,.int .i64 1,.bool false] 161)) hg6 (fun g e=>by cases e;exact Nat.le_refl _) ho hne;obtain ⟨r0,r1,r2,f0,f1,f2⟩:=jam b6;have HX:=jac hX;have HO:=jac hO;have GX:=jac gX;clear hX hO gX b6 ho hg6 hne hat hlt hsk;go_wp2;refine bodyPost_ret (jas rfl _ _ w.heap.size rfl HX.out) rfl ?_;exact ⟨⟨_,_,_,rfl,HO.out⟩,GX.out⟩
theorem jnh (w:World) (hl:Laid w) :
    Calls Tryz.prog 98 #[.string ⟨#[67,111,110,118]⟩] w fun e w'=>ja5 (some (2,3,[⟨⟨#[115,116,114,105,100,101,115]⟩,7,false⟩,⟨⟨#[112,97,100,115]⟩,7,false⟩,⟨⟨#[100,105,108,97,116,105,111,110,115]⟩,7,false⟩,⟨⟨#[103,114,111,117,112]⟩,2,false⟩,jat])) w' e∧w.grownBy w' none:=by
     have e1:jaw ⟨#[67,111,110,118]⟩=false:=by simp only [jaw,jaj];rfl
     obtain ⟨w0,hw0⟩ : ∃ w0,w0=w.alloc (.cells #[.int .i64 0,.int .i64 0,.slice none 0 0] 134):=⟨_,rfl⟩
     have g0:w.grownBy w0 none:=by rw [hw0];exact jab _ _
     have b0:=heap_alloc_new w (.cells #[.int .i64 0,.int .i64 0,.slice none 0 0] 134);rw [← hw0] at b0;have B0:=jac b0;have OO:=jac (jar ⟨#[67,111,110,118]⟩ w0 (hl.more g0));rw [e1] at OO;clear hl b0 e1;go_enter Tryz.func98,Tryz.ntmps98;go_wp2_with fail;rw [← hw0];clear hw0;refine OO.out.mono ?_;rintro e v0 ⟨rfl,h0⟩;go_wp2_with fail;refine (jaV _ _ _).mono ?_;rintro e v1 ⟨rfl,h1'⟩;have h1:=jaa h0 h1';go_wp2_with fail;refine (jaV _ _ _).mono ?_;rintro e v2 ⟨rfl,h2'⟩;have h2:=jaa h1 h2';go_wp2_with fail;refine (jaV _ _ _).mono ?_;rintro e v3 ⟨rfl,h3'⟩;have h3:=jaa h2 h3';go_wp2_with fail;refine (jaV _ _ _).mono ?_;rintro e v4 ⟨rfl,h4'⟩;have h4:=jaa h3 h4';go_wp2_with fail;refine (jau _ _ _ [⟨⟨#[115,116,114,105,100,101,115]⟩,7,false⟩,⟨⟨#[112,97,100,115]⟩,7,false⟩,⟨⟨#[100,105,108,97,116,105,111,110,115]⟩,7,false⟩,⟨⟨#[103,114,111,117,112]⟩,2,false⟩] _ (Or.inr ⟨_,_,rfl,heap_alloc_new _ _,rfl,rfl⟩) (by decide)).mono ?_;rintro e w6 ⟨⟨a,n,c,rfl,ho,hat⟩,hg6⟩;have hlt:=(Array.getElem?_eq_some_iff.1 B0.out).1;have hsk:=h4.size
     have hne:(Value.slice a n c).ownBlock≠some w.heap.size:=fun hh=>by
      rcases hat _ hh with h | h
      ·have:v4.heap.size=w.heap.size:=by simpa [Value.ownBlock] using h
       omega
      ·have:v4.heap.size+1≤w.heap.size:=by simpa using h
       omega
     obtain ⟨b6,hX,hO,gX⟩:=jax (lo:=2) (hi:=3) g0 B0.out h4 (jab v4 (.cells #[.string ⟨#[115,116,114,105,100,101,115]⟩,.int .i64 7,.bool false,.string ⟨#[112,97,100,115]⟩,.int .i64 7,.bool false,.string ⟨#[100,105,108,97,116,105,111,110,115]⟩,.int .i64 7,.bool false,.string ⟨#[103,114,111,117,112]⟩,.int .i64 2,.bool false] 161)) hg6 (fun g e=>by cases e;exact Nat.le_refl _) ho hne;obtain ⟨r0,r1,r2,f0,f1,f2⟩:=jam b6;have HX:=jac hX;have HO:=jac hO;have GX:=jac gX;clear hX hO gX b6 ho hg6 hne hat hlt hsk;go_wp2;refine bodyPost_ret (jas rfl _ _ w.heap.size rfl HX.out) rfl ?_;exact ⟨⟨_,_,_,rfl,HO.out⟩,GX.out⟩
theorem jiI (w:World) (hl:Laid w) :
    Calls Tryz.prog 98 #[.string ⟨#[77,97,120,80,111,111,108]⟩] w fun e w'=>ja5 (some (1,1,[⟨⟨#[107,101,114,110,101,108,95,115,104,97,112,101]⟩,7,true⟩,⟨⟨#[115,116,114,105,100,101,115]⟩,7,false⟩,⟨⟨#[112,97,100,115]⟩,7,false⟩,jat])) w' e∧w.grownBy w' none:=by
     have e1:jaw ⟨#[77,97,120,80,111,111,108]⟩=false:=by simp only [jaw,jaj];rfl
     obtain ⟨w0,hw0⟩ : ∃ w0,w0=w.alloc (.cells #[.int .i64 0,.int .i64 0,.slice none 0 0] 134):=⟨_,rfl⟩
     have g0:w.grownBy w0 none:=by rw [hw0];exact jab _ _
     have b0:=heap_alloc_new w (.cells #[.int .i64 0,.int .i64 0,.slice none 0 0] 134);rw [← hw0] at b0;have B0:=jac b0;have OO:=jac (jar ⟨#[77,97,120,80,111,111,108]⟩ w0 (hl.more g0));rw [e1] at OO;clear hl b0 e1;go_enter Tryz.func98,Tryz.ntmps98;go_wp2_with fail;rw [← hw0];clear hw0;refine OO.out.mono ?_;rintro e v0 ⟨rfl,h0⟩;go_wp2_with fail;refine (jbO _ _ _).mono ?_;rintro e v1 ⟨rfl,h1'⟩;have h1:=jaa h0 h1';go_wp2_with fail;refine (jaV _ _ _).mono ?_;rintro e v2 ⟨rfl,h2'⟩;have h2:=jaa h1 h2';go_wp2_with fail;refine (jaV _ _ _).mono ?_;rintro e v3 ⟨rfl,h3'⟩;have h3:=jaa h2 h3';go_wp2_with fail;refine (jau _ _ _ [⟨⟨#[107,101,114,110,101,108,95,115,104,97,112,101]⟩,7,true⟩,⟨⟨#[115,116,114,105,100,101,115]⟩,7,false⟩,⟨⟨#[112,97,100,115]⟩,7,false⟩] _ (Or.inr ⟨_,_,rfl,heap_alloc_new _ _,rfl,rfl⟩) (by decide)).mono ?_;rintro e w6 ⟨⟨a,n,c,rfl,ho,hat⟩,hg6⟩;have hlt:=(Array.getElem?_eq_some_iff.1 B0.out).1;have hsk:=h3.size
     have hne:(Value.slice a n c).ownBlock≠some w.heap.size:=fun hh=>by
      rcases hat _ hh with h | h
      ·have:v3.heap.size=w.heap.size:=by simpa [Value.ownBlock] using h
       omega
      ·have:v3.heap.size+1≤w.heap.size:=by simpa using h
       omega
     obtain ⟨b6,hX,hO,gX⟩:=jax (lo:=1) (hi:=1) g0 B0.out h3 (jab v3 (.cells #[.string ⟨#[107,101,114,110,101,108,95,115,104,97,112,101]⟩,.int .i64 7,.bool true,.string ⟨#[115,116,114,105,100,101,115]⟩,.int .i64 7,.bool false,.string ⟨#[112,97,100,115]⟩,.int .i64 7,.bool false] 161)) hg6 (fun g e=>by cases e;exact Nat.le_refl _) ho hne;obtain ⟨r0,r1,r2,f0,f1,f2⟩:=jam b6;have HX:=jac hX;have HO:=jac hO;have GX:=jac gX;clear hX hO gX b6 ho hg6 hne hat hlt hsk;go_wp2;refine bodyPost_ret (jas rfl _ _ w.heap.size rfl HX.out) rfl ?_;exact ⟨⟨_,_,_,rfl,HO.out⟩,GX.out⟩
theorem jfi (w:World) (hl:Laid w) :
    Calls Tryz.prog 98 #[.string ⟨#[65,118,101,114,97,103,101,80,111,111,108]⟩] w fun e w'=>ja5 (some (1,1,[⟨⟨#[107,101,114,110,101,108,95,115,104,97,112,101]⟩,7,true⟩,⟨⟨#[115,116,114,105,100,101,115]⟩,7,false⟩,⟨⟨#[112,97,100,115]⟩,7,false⟩,jat])) w' e∧w.grownBy w' none:=by
     have e1:jaw ⟨#[65,118,101,114,97,103,101,80,111,111,108]⟩=false:=by simp only [jaw,jaj];rfl
     obtain ⟨w0,hw0⟩ : ∃ w0,w0=w.alloc (.cells #[.int .i64 0,.int .i64 0,.slice none 0 0] 134):=⟨_,rfl⟩
     have g0:w.grownBy w0 none:=by rw [hw0];exact jab _ _
     have b0:=heap_alloc_new w (.cells #[.int .i64 0,.int .i64 0,.slice none 0 0] 134);rw [← hw0] at b0;have B0:=jac b0;have OO:=jac (jar ⟨#[65,118,101,114,97,103,101,80,111,111,108]⟩ w0 (hl.more g0));rw [e1] at OO;clear hl b0 e1;go_enter Tryz.func98,Tryz.ntmps98;go_wp2_with fail;rw [← hw0];clear hw0;refine OO.out.mono ?_;rintro e v0 ⟨rfl,h0⟩;go_wp2_with fail;refine (jbO _ _ _).mono ?_;rintro e v1 ⟨rfl,h1'⟩;have h1:=jaa h0 h1';go_wp2_with fail;refine (jaV _ _ _).mono ?_;rintro e v2 ⟨rfl,h2'⟩;have h2:=jaa h1 h2';go_wp2_with fail;refine (jaV _ _ _).mono ?_;rintro e v3 ⟨rfl,h3'⟩;have h3:=jaa h2 h3';go_wp2_with fail;refine (jau _ _ _ [⟨⟨#[107,101,114,110,101,108,95,115,104,97,112,101]⟩,7,true⟩,⟨⟨#[115,116,114,105,100,101,115]⟩,7,false⟩,⟨⟨#[112,97,100,115]⟩,7,false⟩] _ (Or.inr ⟨_,_,rfl,heap_alloc_new _ _,rfl,rfl⟩) (by decide)).mono ?_;rintro e w6 ⟨⟨a,n,c,rfl,ho,hat⟩,hg6⟩;have hlt:=(Array.getElem?_eq_some_iff.1 B0.out).1;have hsk:=h3.size
     have hne:(Value.slice a n c).ownBlock≠some w.heap.size:=fun hh=>by
      rcases hat _ hh with h | h
      ·have:v3.heap.size=w.heap.size:=by simpa [Value.ownBlock] using h
       omega
      ·have:v3.heap.size+1≤w.heap.size:=by simpa using h
       omega
     obtain ⟨b6,hX,hO,gX⟩:=jax (lo:=1) (hi:=1) g0 B0.out h3 (jab v3 (.cells #[.string ⟨#[107,101,114,110,101,108,95,115,104,97,112,101]⟩,.int .i64 7,.bool true,.string ⟨#[115,116,114,105,100,101,115]⟩,.int .i64 7,.bool false,.string ⟨#[112,97,100,115]⟩,.int .i64 7,.bool false] 161)) hg6 (fun g e=>by cases e;exact Nat.le_refl _) ho hne;obtain ⟨r0,r1,r2,f0,f1,f2⟩:=jam b6;have HX:=jac hX;have HO:=jac hO;have GX:=jac gX;clear hX hO gX b6 ho hg6 hne hat hlt hsk;go_wp2;refine bodyPost_ret (jas rfl _ _ w.heap.size rfl HX.out) rfl ?_;exact ⟨⟨_,_,_,rfl,HO.out⟩,GX.out⟩
theorem jdr (w:World) (hl:Laid w) :
    Calls Tryz.prog 98 #[.string ⟨#[71,108,111,98,97,108,65,118,101,114,97,103,101,80,111,111,108]⟩] w fun e w'=>ja5 (some (1,1,[jat])) w' e∧w.grownBy w' none:=by
     have e1:jaw ⟨#[71,108,111,98,97,108,65,118,101,114,97,103,101,80,111,111,108]⟩=false:=by simp only [jaw,jaj];rfl
     obtain ⟨w0,hw0⟩ : ∃ w0,w0=w.alloc (.cells #[.int .i64 0,.int .i64 0,.slice none 0 0] 134):=⟨_,rfl⟩
     have g0:w.grownBy w0 none:=by rw [hw0];exact jab _ _
     have b0:=heap_alloc_new w (.cells #[.int .i64 0,.int .i64 0,.slice none 0 0] 134);rw [← hw0] at b0;have B0:=jac b0;have OO:=jac (jar ⟨#[71,108,111,98,97,108,65,118,101,114,97,103,101,80,111,111,108]⟩ w0 (hl.more g0));rw [e1] at OO;clear hl b0 e1;go_enter Tryz.func98,Tryz.ntmps98;go_wp2_with fail;rw [← hw0];clear hw0;refine OO.out.mono ?_;rintro e v0 ⟨rfl,h0⟩;go_wp2_with fail;refine (jau _ _ _ [] _ (Or.inl ⟨rfl,rfl⟩) (by decide)).mono ?_;rintro e w6 ⟨⟨a,n,c,rfl,ho,hat⟩,hg6⟩;have hlt:=(Array.getElem?_eq_some_iff.1 B0.out).1;have hsk:=h0.size
     have hne:(Value.slice a n c).ownBlock≠some w.heap.size:=fun hh=>by
      rcases hat _ hh with h | h
      ·cases h
      ·omega
     obtain ⟨b6,hX,hO,gX⟩:=jax (lo:=1) (hi:=1) g0 B0.out h0 (jad _) hg6 (fun g e=>by cases e) ho hne;obtain ⟨r0,r1,r2,f0,f1,f2⟩:=jam b6;have HX:=jac hX;have HO:=jac hO;have GX:=jac gX;clear hX hO gX b6 ho hg6 hne hat hlt hsk;go_wp2;refine bodyPost_ret (jas rfl _ _ w.heap.size rfl HX.out) rfl ?_;exact ⟨⟨_,_,_,rfl,HO.out⟩,GX.out⟩
theorem jda (w:World) (hl:Laid w) :
    Calls Tryz.prog 98 #[.string ⟨#[66,97,116,99,104,78,111,114,109,97,108,105,122,97,116,105,111,110]⟩] w fun e w'=>ja5 (some (5,5,[⟨⟨#[101,112,115,105,108,111,110]⟩,1,false⟩,jat])) w' e∧w.grownBy w' none:=by
     have e1:jaw ⟨#[66,97,116,99,104,78,111,114,109,97,108,105,122,97,116,105,111,110]⟩=false:=by simp only [jaw,jaj];rfl
     obtain ⟨w0,hw0⟩ : ∃ w0,w0=w.alloc (.cells #[.int .i64 0,.int .i64 0,.slice none 0 0] 134):=⟨_,rfl⟩
     have g0:w.grownBy w0 none:=by rw [hw0];exact jab _ _
     have b0:=heap_alloc_new w (.cells #[.int .i64 0,.int .i64 0,.slice none 0 0] 134);rw [← hw0] at b0;have B0:=jac b0;have OO:=jac (jar ⟨#[66,97,116,99,104,78,111,114,109,97,108,105,122,97,116,105,111,110]⟩ w0 (hl.more g0));rw [e1] at OO;clear hl b0 e1;go_enter Tryz.func98,Tryz.ntmps98;go_wp2_with fail;rw [← hw0];clear hw0;refine OO.out.mono ?_;rintro e v0 ⟨rfl,h0⟩;go_wp2_with fail;refine (jaV _ _ _).mono ?_;rintro e v1 ⟨rfl,h1'⟩;have h1:=jaa h0 h1';go_wp2_with fail;refine (jau _ _ _ [⟨⟨#[101,112,115,105,108,111,110]⟩,1,false⟩] _ (Or.inr ⟨_,_,rfl,heap_alloc_new _ _,rfl,rfl⟩) (by decide)).mono ?_;rintro e w6 ⟨⟨a,n,c,rfl,ho,hat⟩,hg6⟩;have hlt:=(Array.getElem?_eq_some_iff.1 B0.out).1;have hsk:=h1.size
     have hne:(Value.slice a n c).ownBlock≠some w.heap.size:=fun hh=>by
      rcases hat _ hh with h | h
      ·have:v1.heap.size=w.heap.size:=by simpa [Value.ownBlock] using h
       omega
      ·have:v1.heap.size+1≤w.heap.size:=by simpa using h
       omega
     obtain ⟨b6,hX,hO,gX⟩:=jax (lo:=5) (hi:=5) g0 B0.out h1 (jab v1 (.cells #[.string ⟨#[101,112,115,105,108,111,110]⟩,.int .i64 1,.bool false] 161)) hg6 (fun g e=>by cases e;exact Nat.le_refl _) ho hne;obtain ⟨r0,r1,r2,f0,f1,f2⟩:=jam b6;have HX:=jac hX;have HO:=jac hO;have GX:=jac gX;clear hX hO gX b6 ho hg6 hne hat hlt hsk;go_wp2;refine bodyPost_ret (jas rfl _ _ w.heap.size rfl HX.out) rfl ?_;exact ⟨⟨_,_,_,rfl,HO.out⟩,GX.out⟩
theorem jhz (w:World) (hl:Laid w) :
    Calls Tryz.prog 98 #[.string ⟨#[67,111,110,115,116,97,110,116]⟩] w fun e w'=>ja5 (some (0,0,[⟨⟨#[118,97,108,117,101]⟩,4,true⟩,jat])) w' e∧w.grownBy w' none:=by
     have e1:jaw ⟨#[67,111,110,115,116,97,110,116]⟩=false:=by simp only [jaw,jaj];rfl
     obtain ⟨w0,hw0⟩ : ∃ w0,w0=w.alloc (.cells #[.int .i64 0,.int .i64 0,.slice none 0 0] 134):=⟨_,rfl⟩
     have g0:w.grownBy w0 none:=by rw [hw0];exact jab _ _
     have b0:=heap_alloc_new w (.cells #[.int .i64 0,.int .i64 0,.slice none 0 0] 134);rw [← hw0] at b0;have B0:=jac b0;have OO:=jac (jar ⟨#[67,111,110,115,116,97,110,116]⟩ w0 (hl.more g0));rw [e1] at OO;clear hl b0 e1;go_enter Tryz.func98,Tryz.ntmps98;go_wp2_with fail;rw [← hw0];clear hw0;refine OO.out.mono ?_;rintro e v0 ⟨rfl,h0⟩;go_wp2_with fail;refine (jbO _ _ _).mono ?_;rintro e v1 ⟨rfl,h1'⟩;have h1:=jaa h0 h1';go_wp2_with fail;refine (jau _ _ _ [⟨⟨#[118,97,108,117,101]⟩,4,true⟩] _ (Or.inr ⟨_,_,rfl,heap_alloc_new _ _,rfl,rfl⟩) (by decide)).mono ?_;rintro e w6 ⟨⟨a,n,c,rfl,ho,hat⟩,hg6⟩;have hlt:=(Array.getElem?_eq_some_iff.1 B0.out).1;have hsk:=h1.size
     have hne:(Value.slice a n c).ownBlock≠some w.heap.size:=fun hh=>by
      rcases hat _ hh with h | h
      ·have:v1.heap.size=w.heap.size:=by simpa [Value.ownBlock] using h
       omega
      ·have:v1.heap.size+1≤w.heap.size:=by simpa using h
       omega
     obtain ⟨b6,hX,hO,gX⟩:=jax (lo:=0) (hi:=0) g0 B0.out h1 (jab v1 (.cells #[.string ⟨#[118,97,108,117,101]⟩,.int .i64 4,.bool true] 161)) hg6 (fun g e=>by cases e;exact Nat.le_refl _) ho hne;obtain ⟨r0,r1,r2,f0,f1,f2⟩:=jam b6;have HX:=jac hX;have HO:=jac hO;have GX:=jac gX;clear hX hO gX b6 ho hg6 hne hat hlt hsk;go_wp2;refine bodyPost_ret (jas rfl _ _ w.heap.size rfl HX.out) rfl ?_;exact ⟨⟨_,_,_,rfl,HO.out⟩,GX.out⟩
end Go.Proofs.YteigfipgmghgmaaGreatDoor
namespace Go.Proofs.YteigfipgmghgmaaGreatDoor
open Go.RowKit
def jeo:List (List UInt8×Int×Int×List Ra):=[
 ([73,100,101,110,116,105,116,121],1,1,[jat]),
 ([78,101,103],1,1,[jat]),
 ([65,98,115],1,1,[jat]),
 ([78,111,116],1,1,[jat]),
 ([82,101,108,117],1,1,[jat]),
 ([83,113,114,116],1,1,[jat]),
 ([70,108,111,111,114],1,1,[jat]),
 ([69,120,112],1,1,[jat]),
 ([83,105,103,109,111,105,100],1,1,[jat]),
 ([84,97,110,104],1,1,[jat]),
 ([65,100,100],2,2,[jat]),
 ([83,117,98],2,2,[jat]),
 ([77,117,108],2,2,[jat]),
 ([68,105,118],2,2,[jat]),
 ([77,97,120],2,2,[jat]),
 ([77,105,110],2,2,[jat]),
 ([65,110,100],2,2,[jat]),
 ([79,114],2,2,[jat]),
 ([88,111,114],2,2,[jat]),
 ([69,113,117,97,108],2,2,[jat]),
 ([76,101,115,115],2,2,[jat]),
 ([71,114,101,97,116,101,114],2,2,[jat]),
 ([77,97,116,77,117,108],2,2,[jat]),
 ([87,104,101,114,101],3,3,[jat]),
 ([67,108,105,112],1,1,[⟨⟨#[109,105,110]⟩,1,false⟩,⟨⟨#[109,97,120]⟩,1,false⟩,jat]),
 ([67,97,115,116],1,1,[⟨⟨#[116,111]⟩,2,true⟩,jat]),
 ([82,101,100,117,99,101,83,117,109],1,1,[⟨⟨#[97,120,101,115]⟩,7,false⟩,⟨⟨#[107,101,101,112,100,105,109,115]⟩,2,false⟩,jat]),
 ([82,101,100,117,99,101,77,97,120],1,1,[⟨⟨#[97,120,101,115]⟩,7,false⟩,⟨⟨#[107,101,101,112,100,105,109,115]⟩,2,false⟩,jat]),
 ([82,101,100,117,99,101,77,101,97,110],1,1,[⟨⟨#[97,120,101,115]⟩,7,false⟩,⟨⟨#[107,101,101,112,100,105,109,115]⟩,2,false⟩,jat]),
 ([65,114,103,77,97,120],1,1,[⟨⟨#[97,120,105,115]⟩,2,false⟩,⟨⟨#[107,101,101,112,100,105,109,115]⟩,2,false⟩,jat]),
 ([82,101,115,104,97,112,101],1,1,[⟨⟨#[115,104,97,112,101]⟩,7,true⟩,jat]),
 ([69,120,112,97,110,100],1,1,[⟨⟨#[115,104,97,112,101]⟩,7,true⟩,jat]),
 ([84,114,97,110,115,112,111,115,101],1,1,[⟨⟨#[112,101,114,109]⟩,7,false⟩,jat]),
 ([67,111,110,99,97,116],1,20,[⟨⟨#[97,120,105,115]⟩,2,true⟩,jat]),
 ([83,108,105,99,101],1,1,[⟨⟨#[115,116,97,114,116,115]⟩,7,true⟩,⟨⟨#[101,110,100,115]⟩,7,true⟩,⟨⟨#[97,120,101,115]⟩,7,false⟩,jat]),
 ([71,97,116,104,101,114],2,2,[⟨⟨#[97,120,105,115]⟩,2,false⟩,jat]),
 ([80,97,100],1,1,[⟨⟨#[112,97,100,115]⟩,7,true⟩,⟨⟨#[118,97,108,117,101]⟩,1,false⟩,jat]),
 ([83,113,117,101,101,122,101],1,1,[⟨⟨#[97,120,101,115]⟩,7,true⟩,jat]),
 ([85,110,115,113,117,101,101,122,101],1,1,[⟨⟨#[97,120,101,115]⟩,7,true⟩,jat]),
 ([70,108,97,116,116,101,110],1,1,[⟨⟨#[97,120,105,115]⟩,2,false⟩,jat]),
 ([83,111,102,116,109,97,120],1,1,[⟨⟨#[97,120,105,115]⟩,2,false⟩,jat]),
 ([71,101,109,109],2,3,[⟨⟨#[116,114,97,110,115,65]⟩,2,false⟩,⟨⟨#[116,114,97,110,115,66]⟩,2,false⟩,⟨⟨#[97,108,112,104,97]⟩,1,false⟩,⟨⟨#[98,101,116,97]⟩,1,false⟩,jat]),
 ([67,111,110,118],2,3,[⟨⟨#[115,116,114,105,100,101,115]⟩,7,false⟩,⟨⟨#[112,97,100,115]⟩,7,false⟩,⟨⟨#[100,105,108,97,116,105,111,110,115]⟩,7,false⟩,⟨⟨#[103,114,111,117,112]⟩,2,false⟩,jat]),
 ([77,97,120,80,111,111,108],1,1,[⟨⟨#[107,101,114,110,101,108,95,115,104,97,112,101]⟩,7,true⟩,⟨⟨#[115,116,114,105,100,101,115]⟩,7,false⟩,⟨⟨#[112,97,100,115]⟩,7,false⟩,jat]),
 ([65,118,101,114,97,103,101,80,111,111,108],1,1,[⟨⟨#[107,101,114,110,101,108,95,115,104,97,112,101]⟩,7,true⟩,⟨⟨#[115,116,114,105,100,101,115]⟩,7,false⟩,⟨⟨#[112,97,100,115]⟩,7,false⟩,jat]),
 ([71,108,111,98,97,108,65,118,101,114,97,103,101,80,111,111,108],1,1,[jat]),
 ([66,97,116,99,104,78,111,114,109,97,108,105,122,97,116,105,111,110],5,5,[⟨⟨#[101,112,115,105,108,111,110]⟩,1,false⟩,jat]),
 ([67,111,110,115,116,97,110,116],0,0,[⟨⟨#[118,97,108,117,101]⟩,4,true⟩,jat])]
def jcN (op:ByteArray):Option (Int×Int×List Ra):=(jeo.find? (fun r=>r.1==op.toList)).map (·.2)
theorem jni (w:World) (hl:Laid w):∀ r∈jeo,Calls Tryz.prog 98 #[.string (B r.1)] w fun e w'=>ja5 (some r.2) w' e∧w.grownBy w' none:=by
 unfold jeo;simp only [List.forall_mem_cons];exact ⟨jhy w hl,jqf w hl,jqg w hl,jqh w hl,jm1 w hl,jnc w hl,jlJ w hl,jqi w hl,jiC w hl,jnd w hl,jp9 w hl,jqj w hl,jqk w hl,jql w hl,jqm w hl,jqn w hl,jqo w hl,jsM w hl,jqp w hl,jlK w hl,jne w hl,jiD w hl,jjM w hl,jlL w hl,jnf w hl,jm2 w hl,jgs w hl,jgt w hl,jfH w hl,jjN w hl,jiE w hl,jjO w hl,jgu w hl,jjP w hl,jlM w hl,jjQ w hl,jqq w hl,jiF w hl,jgv w hl,jiG w hl,jiH w hl,jng w hl,jnh w hl,jiI w hl,jfi w hl,jdr w hl,jda w hl,jhz w hl,fun r hr=>absurd hr (List.not_mem_nil)⟩
theorem jaB {s:ByteArray} (h:jeo.find? (fun r=>r.1==s.toList)=none) (n:List UInt8) (hn:n∈jeo.map (·.1)):(s.toList==n)=false:=by
 obtain ⟨r,hr,rfl⟩:=List.mem_map.1 hn;have:=List.find?_eq_none.1 h r hr;rw [beq_eq_false_iff_ne];intro e;exact this (by simp [e])
theorem jnj (s:ByteArray) (h:jeo.find? (fun r=>r.1==s.toList)=none) (w:World) (hl:Laid w) :
    Calls Tryz.prog 98 #[.string s] w fun e w'=>ja5 none w' e∧w.grownBy w' none:=by
     have e1:jaw s=false:=by
      unfold jaw;rw [List.any_eq_false];intro n hn;have h2:=jaB h n (by revert n;decide);rw [beq_eq_false_iff_ne] at h2;simpa using fun e=>h2 e.symm
     obtain ⟨w0,hw0⟩ : ∃ w0,w0=w.alloc (.cells #[.int .i64 0,.int .i64 0,.slice none 0 0] 134):=⟨_,rfl⟩
     have g0:w.grownBy w0 none:=by rw [hw0];exact jab _ _
     have b0:=heap_alloc_new w (.cells #[.int .i64 0,.int .i64 0,.slice none 0 0] 134);rw [← hw0] at b0;have B0:=jac b0;have OO:=jac (jar s w0 (hl.more g0));rw [e1] at OO;have q0:(s.toList==[65,100,100])=false:=jaB h _ (by decide);have q1:(s.toList==[83,117,98])=false:=jaB h _ (by decide);have q2:(s.toList==[77,117,108])=false:=jaB h _ (by decide);have q3:(s.toList==[68,105,118])=false:=jaB h _ (by decide);have q4:(s.toList==[77,97,120])=false:=jaB h _ (by decide);have q5:(s.toList==[77,105,110])=false:=jaB h _ (by decide);have q6:(s.toList==[65,110,100])=false:=jaB h _ (by decide);have q7:(s.toList==[79,114])=false:=jaB h _ (by decide);have q8:(s.toList==[88,111,114])=false:=jaB h _ (by decide);have q9:(s.toList==[69,113,117,97,108])=false:=jaB h _ (by decide);have q10:(s.toList==[76,101,115,115])=false:=jaB h _ (by decide);have q11:(s.toList==[71,114,101,97,116,101,114])=false:=jaB h _ (by decide);have q12:(s.toList==[77,97,116,77,117,108])=false:=jaB h _ (by decide);have q13:(s.toList==[87,104,101,114,101])=false:=jaB h _ (by decide);have q14:(s.toList==[67,108,105,112])=false:=jaB h _ (by decide);have q15:(s.toList==[67,97,115,116])=false:=jaB h _ (by decide);have q16:(s.toList==[82,101,100,117,99,101,83,117,109])=false:=jaB h _ (by decide);have q17:(s.toList==[82,101,100,117,99,101,77,97,120])=false:=jaB h _ (by decide);have q18:(s.toList==[82,101,100,117,99,101,77,101,97,110])=false:=jaB h _ (by decide);have q19:(s.toList==[65,114,103,77,97,120])=false:=jaB h _ (by decide);have q20:(s.toList==[82,101,115,104,97,112,101])=false:=jaB h _ (by decide);have q21:(s.toList==[69,120,112,97,110,100])=false:=jaB h _ (by decide);have q22:(s.toList==[84,114,97,110,115,112,111,115,101])=false:=jaB h _ (by decide);have q23:(s.toList==[67,111,110,99,97,116])=false:=jaB h _ (by decide);have q24:(s.toList==[83,108,105,99,101])=false:=jaB h _ (by decide);have q25:(s.toList==[71,97,116,104,101,114])=false:=jaB h _ (by decide);have q26:(s.toList==[80,97,100])=false:=jaB h _ (by decide);have q27:(s.toList==[83,113,117,101,101,122,101])=false:=jaB h _ (by decide);have q28:(s.toList==[85,110,115,113,117,101,101,122,101])=false:=jaB h _ (by decide);have q29:(s.toList==[70,108,97,116,116,101,110])=false:=jaB h _ (by decide);have q30:(s.toList==[83,111,102,116,109,97,120])=false:=jaB h _ (by decide);have q31:(s.toList==[71,101,109,109])=false:=jaB h _ (by decide);have q32:(s.toList==[67,111,110,118])=false:=jaB h _ (by decide);have q33:(s.toList==[77,97,120,80,111,111,108])=false:=jaB h _ (by decide);have q34:(s.toList==[65,118,101,114,97,103,101,80,111,111,108])=false:=jaB h _ (by decide);have q35:(s.toList==[71,108,111,98,97,108,65,118,101,114,97,103,101,80,111,111,108])=false:=jaB h _ (by decide);have q36:(s.toList==[66,97,116,99,104,78,111,114,109,97,108,105,122,97,116,105,111,110])=false:=jaB h _ (by decide);have q37:(s.toList==[67,111,110,115,116,97,110,116])=false:=jaB h _ (by decide);clear hl b0 e1 h;go_enter Tryz.func98,Tryz.ntmps98;go_wp2_with fail;rw [← hw0];clear hw0;refine OO.out.mono ?_;rintro e v0 ⟨rfl,h0⟩;have b1:=jag B0.out h0;obtain ⟨r0,r1,r2,f0,f1,f2⟩:=jam b1;obtain ⟨hX,gX⟩:=jjK (.int .i64 0) (.int .i64 0) (.slice none 0 0) b1;have HX:=jac hX;have GX:=jac (jc7 (jaa g0 h0) gX (Nat.le_refl _));clear hX gX b1;go_wp2;refine bodyPost_ret (jas rfl _ _ w.heap.size rfl HX.out) rfl ?_;exact ⟨rfl,GX.out⟩
theorem jlN (s:ByteArray) (w:World) (hl:Laid w) :
    Calls Tryz.prog 98 #[.string s] w fun e w'=>ja5 (jcN s) w' e∧w.grownBy w' none:=by
     unfold jcN
     cases h:jeo.find? (fun r=>r.1==s.toList) with
     | none=>exact jnj s h w hl
     | some r =>
      have h1:=List.find?_some h;have h2:r.1=s.data.toList:=by rw [← jaj];simpa using h1
      have h3:=jni w hl r (List.mem_of_find?_eq_some h);rw [h2,jk0] at h3;exact h3
end Go.Proofs.YteigfipgmghgmaaGreatDoor
namespace Go.Proofs.YteigfipgmghgmaaGreatDoor
open Go.RowKit
theorem jfI (s:ByteArray):(jgo s).length=1:=rfl
theorem jeY (a:Atr):(jeC a).length=9:=rfl
end Go.Proofs.YteigfipgmghgmaaGreatDoor
