/- Lemmas. -/
import Derived.Test.YtmgdjlkndbejkaaGreatDoorJ36
set_option maxRecDepth 100000
set_option maxHeartbeats 8000000
set_option linter.unusedVariables false
set_option linter.unusedSimpArgs false
namespace Go.Proofs.YtmgdjlkndbejkaaGreatDoor
open Go.Lib (hid)
section
open Go.RowKit
theorem slcR_le (a:Option Int) (r:List UInt8):(slcR a r).2.length≤r.length:=by
 unfold slcR slcE
 have l1:=skB_le r
 have l2:=intA_le (skB r)
 have l3:=skB_le (intA (skB r)).2
 have l4:=skB_le (skB (intA (skB r)).2).tail
 split
 ·have l5:(skB (intA (skB r)).2).tail.length≤(skB (intA (skB r)).2).length:=by simp
  split
  ·show (List.drop _ _).length≤_
   rw[List.length_drop];omega
  ·show (skB _).length≤_
   omega
 ·show (skB _).length≤_
  omega
theorem selR_le {l r:List UInt8} {x:Sel} (h:selR l=some (x,r)):r.length≤l.length:=by
 rw[selR_on] at h
 split at h
 ·injection h with h
  injection h with h1 h2
  rw[← h2]
  simp
 split at h
 ·obtain ⟨a,h,_⟩:=map_in (f:=fun a=>sqN a) h
  unfold sngR at h
  cases hq:trL (l.tail.length+1) l.tail with
  | none=>rw[hq] at h;cases h
  | some p =>
    rw[hq] at h
    have hl:=trL_le p hq
    have h:((readQ .plain (p.1++[34]) [] 0).map fun u=>(u.1,p.2))=some (a,r):=h
    cases hu:readQ .plain (p.1++[34]) [] 0 with
    | none=>rw[hu] at h;cases h
    | some u =>
      rw[hu] at h
      injection h with h
      injection h with h1 h2
      rw[← h2]
      simp at hl
      omega
 split at h
 ·obtain ⟨a,h,_⟩:=map_in (f:=fun a=>sqN a) h
  unfold dblR at h
  cases hu:readQ .plain l.tail [] 0 with
  | none=>rw[hu] at h;cases h
  | some u =>
    rw[hu] at h
    injection h with h
    injection h with h1 h2
    rw[← h2,List.length_drop,List.length_tail]
    omega
 have l1:=intA_le l
 have l2:=skB_le (intA l).2
 split at h
 ·injection h with h
  have:=slcR_le (intA l).1 (skB (intA l).2).tail
  rw[h] at this
  rw[List.length_tail] at this
  show r.length≤_
  have this:r.length≤_:=this
  omega
 ·cases hi:(intA l).1 with
  | none=>rw[hi] at h;cases h
  | some v =>
    rw[hi] at h
    injection h with h
    injection h with h1 h2
    rw[← h2]
    omega
theorem sel_no {b:Nat} {l:List UInt8} {W:World} (h:RdR W b l) (hl:l.length≤1000000) (hn:selR l=none) :
   Calls Tryz.prog 54 #[.pointer (some ⟨b,0,none⟩)] W fun e w' => ∃ (x:Sel) (r:List UInt8),e=.returned (.tuple #[.agg #[.int .i64 x.kind,.string x.name,.int .i64 x.index,.int .i64 x.start,.int .i64 x.en,.bool x.hs,.bool x.he,.int .i64 x.stride],.bool false])∧Went W b r w':=by
 refine (selector_any b l W h hl).mono ?_
 rintro e w' ⟨x,ok,r,rfl,hw,hm⟩
 rw[hn] at hm
 obtain rfl:ok=false:=hm
 exact ⟨x,r,rfl,hw⟩
theorem sel_yes {b:Nat} {l r:List UInt8} {x:Sel} {W:World} (h:RdR W b l) (hl:l.length≤1000000) (hn:selR l=some (x,r)) :
   Calls Tryz.prog 54 #[.pointer (some ⟨b,0,none⟩)] W fun e w'=>e=.returned (.tuple #[.agg #[.int .i64 x.kind,.string x.name,.int .i64 x.index,.int .i64 x.start,.int .i64 x.en,.bool x.hs,.bool x.he,.int .i64 x.stride],.bool true])∧Went W b r w':=by
 refine (selector_any b l W h hl).mono ?_
 rintro e w' ⟨x',ok,r',rfl,hw,hm⟩
 rw[hn] at hm
 obtain ⟨rfl,rfl,rfl⟩:=hm
 exact ⟨rfl,hw⟩
section
variable {W w w':World} {b:Nat} {r r':List UInt8}
theorem GRow.turned {α:Type} {K:RowK α} {base:Nat} {v:Value} {l:List α} (h:GRow K w base v l) (ht:Turned b w w') (hb:b<base):GRow K w' base v l :=
 h.stay fun g hg=>ht.2.2.2.2 g (h.low hg).2 (by have:=(h.low hg).1;omega)
theorem Went.skip (h:Went W b r w) (hl:r.length≤1000000):Calls Tryz.prog 36 #[.pointer (some ⟨b,0,none⟩)] w fun e w'=>e=.returned (.tuple #[])∧Went w b (skB r) w'∧Went W b (skB r) w':=by
 refine (skip_any b r w h.1 hl).mono ?_
 rintro e w' ⟨rfl,hw⟩
 exact ⟨rfl,hw,h.trans hw⟩
theorem Went.yes {c:UInt8} (h:Went W b r w) (hc:r.head?=some c):Calls Tryz.prog 15 #[.pointer (some ⟨b,0,none⟩),.string ⟨#[c]⟩] w fun e w'=>e=.returned (.bool true)∧Went w b r.tail w'∧Went W b r.tail w':=by
 cases r with
 | nil=>cases hc
 | cons d t =>
   obtain rfl:=Option.some.inj hc
   refine (take_yes b d t w h.1).mono ?_
   rintro e w' ⟨rfl,hw⟩
   exact ⟨rfl,hw,h.trans hw⟩
theorem Went.no {c:UInt8} (h:Went W b r w) (hc:r.head?≠some c):Calls Tryz.prog 15 #[.pointer (some ⟨b,0,none⟩),.string ⟨#[c]⟩] w fun e w'=>e=.returned (.bool false)∧Went w b r w'∧Went W b r w':=by
 refine (take_no b c r w h.1 hc).mono ?_
 rintro e w' ⟨rfl,hw⟩
 exact ⟨rfl,hw,h.trans hw⟩
theorem Went.selNo (h:Went W b r w) (hl:r.length≤1000000) (hn:selR r=none):Calls Tryz.prog 54 #[.pointer (some ⟨b,0,none⟩)] w fun e w' => ∃ (x:Sel) (r':List UInt8),e=.returned (.tuple #[.agg #[.int .i64 x.kind,.string x.name,.int .i64 x.index,.int .i64 x.start,.int .i64 x.en,.bool x.hs,.bool x.he,.int .i64 x.stride],.bool false])∧Went W b r' w':=by
 refine (sel_no h.1 hl hn).mono ?_
 rintro e w' ⟨x,r',rfl,hw⟩
 exact ⟨x,r',rfl,h.trans hw⟩
theorem Went.selYes {x:Sel} (h:Went W b r w) (hl:r.length≤1000000) (hn:selR r=some (x,r')):Calls Tryz.prog 54 #[.pointer (some ⟨b,0,none⟩)] w fun e w'=>e=.returned (.tuple #[.agg #[.int .i64 x.kind,.string x.name,.int .i64 x.index,.int .i64 x.start,.int .i64 x.en,.bool x.hs,.bool x.he,.int .i64 x.stride],.bool true])∧Went w b r' w'∧Went W b r' w':=by
 refine (sel_yes h.1 hl hn).mono ?_
 rintro e w' ⟨rfl,hw⟩
 exact ⟨rfl,hw,h.trans hw⟩
theorem Went.alloc (h:Went W b r w) (o:Obj):Went W b r (w.alloc o) :=
 ⟨Own.over h.1 o,h.2.trans (Turned.of_below (below1 w o) rfl)⟩
theorem Went.grown {row:Option Nat} (h:Went W b r w) (hb:b<W.heap.size) (hg:w.grownBy w' row) (hr:∀ g,row=some g→W.heap.size≤g):Went W b r w':=by
 obtain ⟨g1,g2,g3,g4,g5⟩:=hg
 have t:=h.2
 have hz:=t.2.2.2.1
 have key:∀ k,k<W.heap.size→w'.heap[k]?=w.heap[k]?:=fun k hk=>g5 k (by omega) (fun e=>by have:=hr k e.symm;omega)
 exact ⟨(key b hb).trans h.1,g1.trans t.1,g2.trans t.2.1,g3.trans t.2.2.1,Nat.le_trans hz g4,fun k hk hne=>(key k hk).trans (t.2.2.2.2 k hk hne)⟩
end
def BkEnd (l:List UInt8) (b:Nat) (W:World) (e:Ending) (w':World):Prop :=
 ∃ (v:Value) (ok:Bool) (xs:List Sel) (r:List UInt8),e=.returned (.tuple #[v,.bool ok])∧Went W b r w'∧GRow selK w' W.heap.size v xs∧xs.length≤l.length+1∧match brkS l with
   | none=>ok=false
   | some (xs',r')=>ok=true∧xs=xs'∧r=r'
def RelSs (b:Nat) (l:List UInt8) (W:World) (vo:Value) (wr:World):Prop :=
 ∃ (r:List UInt8) (acc:List Sel) (f:Nat) (V:Value),V=vo∧Went W b r wr∧GRow selK wr W.heap.size vo acc∧r.length≤l.length∧acc.length+r.length≤l.length∧r.length<f∧brkR f r acc=brkS l
theorem selectors_any (b:Nat) (l:List UInt8) (W:World) (h:RdR W b l) (hl:l.length≤1000000) :
   Calls Tryz.prog 37 #[.pointer (some ⟨b,0,none⟩)] W (BkEnd l b W):=by
 have HB:=hid h.inside
 have HR0:=hid (show RelSs b l W (.slice none 0 0) W from ⟨l,[],l.length+2,_,rfl,h.same,GRow.nil W _,Nat.le_refl _,by simp,by omega,rfl⟩)
 clear h
 go_enter Tryz.func37,Tryz.ntmps37
 go_wp2
 go_loopw [4] (fun vo wr=>RelSs b l W vo wr) (fun _ wr=>muR b wr)
 case atStart=>exact HR0.out
 case round =>
   obtain ⟨r,acc,f,V,rfl,hw,hrow,hrl,hal,hf,hgo⟩:=hrel
   obtain ⟨f,rfl⟩:∃ g,f=g+1:=⟨f-1,by omega⟩
   have HM0:=hid (muR_is hw.1)
   have h9:r.length≤1000000:=by omega
   have hs9:(skB r).length≤1000000:=Nat.le_trans (skB_le r) h9
   have hsr:=skB_le r
   have HW0:=hid hw
   have HROW:=hid hrow
   rw[brkR_on] at hgo
   unfold nxR at hgo
   clear hw
   cases hx:selR (skB r) with
   | none =>
     rw[hx] at hgo
     have HN:=hid (show brkS l=none from hgo.symm)
     have HX:=hid hx
     clear hgo hx hrow
     go_wp2_with (first
       | (go_at_call 36;with_reducible refine (Went.skip HW0.out h9).mono ?_
          go_must (
            rintro e w1 ⟨rfl,t1,i1⟩
            have H1:=hid i1
            clear i1 t1))
       | (go_at_call 54;with_reducible refine (Went.selNo H1.out hs9 HX.out).mono ?_
          go_must (
            rintro e w2 ⟨x,r2,rfl,i2⟩
            have H2:=hid (i2.alloc (.cells #[.int .i64 x.kind,.string x.name,.int .i64 x.index,.int .i64 x.start,.int .i64 x.en,.bool x.hs,.bool x.he,.int .i64 x.stride] 35))
            clear i2)))
     go_ret2
     exact ⟨_,false,[],r2,rfl,H2.out,GRow.nil _ _,by simp,by rw[HN.out]⟩
   | some p =>
     obtain ⟨x,r1⟩:=p
     rw[hx] at hgo
     have hr1:=selR_le hx
     have ht1:=skB_le r1
     have HX:=hid hx
     have h19:r1.length≤1000000:=by omega
     have hal9:acc.length≤1000000:=by omega
     have HLOW:=hid (fun g' hg'=>(hrow.low (g:=g') hg').1)
     have hgo:(match endP (x,r1) with
       | none=>none
       | some (x,t)=>if t.head?=some 44 then brkR f t.tail (acc++[x]) else some (acc++[x],t.tail))=brkS l:=hgo
     have hep:endP (x,r1)=if EndS (skB r1) then some (x,skB r1) else none:=rfl
     generalize ht:skB r1=t at *
     have HT:=hid ht
     clear hx ht hrow
     by_cases h44:t.head?=some 44
     ·have hgo:brkR f t.tail (acc++[x])=brkS l:=by
        rw[← hgo,hep,if_pos (.inr h44)]
        exact (if_pos h44).symm
      have hlt:t.tail.length<t.length:=by
        cases t with
        | nil=>cases h44
        | cons a u=>simp
      have HGO:=hid hgo
      have HLT:=hid hlt
      have HBD:=hid (show r.length≤l.length∧acc.length+r.length≤l.length∧r.length<f+1∧t.length≤r.length from ⟨hrl,hal,hf,by omega⟩)
      clear hgo hep hlt hrl hal hf hsr hr1 ht1
      go_wp2_with (first
      | (go_at_call 36;with_reducible refine (Went.skip HW0.out h9).mono ?_
         go_must (
           rintro e w1 ⟨rfl,t1,i1⟩
           have T1:=hid t1.2
           have H1:=hid i1
           clear i1 t1))
      | (go_at_call 54;with_reducible refine (Went.selYes H1.out hs9 HX.out).mono ?_
         go_must (
           rintro e w2 ⟨rfl,t2,i2⟩
           have o2:=Own.fresh w2 35 #[.int .i64 x.kind,.string x.name,.int .i64 x.index,.int .i64 x.start,.int .i64 x.en,.bool x.hs,.bool x.he,.int .i64 x.stride]
           have a0:=o2.at 0
           have a1:=o2.at 1
           have a2:=o2.at 2
           have a3:=o2.at 3
           have a4:=o2.at 4
           have a5:=o2.at 5
           have a6:=o2.at 6
           have a7:=o2.at 7
           simp at a0 a1 a2 a3 a4 a5 a6 a7
           have HROW2:=hid (fun o=>(((HROW.out.turned T1.out HB.out).turned t2.2 HB.out).keep (below1 w2 (.cells #[.int .i64 x.kind,.string x.name,.int .i64 x.index,.int .i64 x.start,.int .i64 x.en,.bool x.hs,.bool x.he,.int .i64 x.stride] 35)) (Nat.le_refl _)).keep (below1 _ o) (Nat.le_refl _))
           have HW2:=hid (fun o=>(i2.alloc (.cells #[.int .i64 x.kind,.string x.name,.int .i64 x.index,.int .i64 x.start,.int .i64 x.en,.bool x.hs,.bool x.he,.int .i64 x.stride] 35)).alloc o)
           have hnew:=new_sel (w2.alloc (.cells #[.int .i64 x.kind,.string x.name,.int .i64 x.index,.int .i64 x.start,.int .i64 x.en,.bool x.hs,.bool x.he,.int .i64 x.stride] 35)) x
           have hz2:(w2.alloc (.cells #[.int .i64 x.kind,.string x.name,.int .i64 x.index,.int .i64 x.start,.int .i64 x.en,.bool x.hs,.bool x.he,.int .i64 x.stride] 35)).heap.size=w2.heap.size+1:=by simp
           rw[hz2] at hnew
           have HNEW:=hid hnew
           have HZ:=hid (fun o=>(HW2.out o).2.2.2.2.1)
           clear t2 i2 o2 hnew hz2))
      | (at_builtin
         go_must (
           refine row_append (K:=selK) _ rfl (.tmp 16) (.tmp 18) rfl W.heap.size _ acc rfl (HROW2.out _) _ 1 1 [x] rfl HNEW.out (by show _+1≤_;omega) (HZ.out _) ?_
           intro v4 w4 row4 grown4 at4
           have i4:=(HW2.out _).grown HB.out grown4 HLOW.out
           have R4:=hid row4
           have H4:=hid i4
           clear row4 grown4 at4 i4))
      | (go_at_call 36;with_reducible refine (Went.skip H4.out h19).mono ?_
         go_must (
           rintro e w5 ⟨rfl,t5,i5⟩
           rw[HT.out] at t5 i5
           have R5:=hid (R4.out.turned t5.2 HB.out)
           have H5:=hid i5
           clear i5 t5))
      | (go_at_call 15;with_reducible refine (Went.yes H5.out h44).mono ?_
         go_must (
           rintro e w6 ⟨rfl,t6,i6⟩
           have R6:=hid (R5.out.turned t6.2 HB.out)
           have H6:=hid i6
           clear i6 t6)))
      go_roundw
      case rel=>exact ⟨t.tail,acc++[x],f,_,rfl,H6.out,R6.out,by have:=HBD.out;have:=HLT.out;omega,by have:=HBD.out;have:=HLT.out;rw[List.length_append];show acc.length+1+_≤_;omega,by have:=HBD.out;have:=HLT.out;omega,HGO.out⟩
      case measure=>rw[muR_is H6.out.1,HM0.out];have:=HBD.out;have:=HLT.out;omega
     have HA:=hid (show (acc++[x]).length≤l.length+1 by rw[List.length_append];show acc.length+1≤_;omega)
     by_cases h93:t.head?=some 93
     ·have HG:=hid (show brkS l=some (acc++[x],t.tail) by
        rw[← hgo,hep,if_pos (.inl h93)]
        exact if_neg h44)
      clear hgo hep hrl hal hf hsr hr1 ht1
      go_wp2_with (first
      | (go_at_call 36;with_reducible refine (Went.skip HW0.out h9).mono ?_
         go_must (
           rintro e w1 ⟨rfl,t1,i1⟩
           have T1:=hid t1.2
           have H1:=hid i1
           clear i1 t1))
      | (go_at_call 54;with_reducible refine (Went.selYes H1.out hs9 HX.out).mono ?_
         go_must (
           rintro e w2 ⟨rfl,t2,i2⟩
           have o2:=Own.fresh w2 35 #[.int .i64 x.kind,.string x.name,.int .i64 x.index,.int .i64 x.start,.int .i64 x.en,.bool x.hs,.bool x.he,.int .i64 x.stride]
           have a0:=o2.at 0
           have a1:=o2.at 1
           have a2:=o2.at 2
           have a3:=o2.at 3
           have a4:=o2.at 4
           have a5:=o2.at 5
           have a6:=o2.at 6
           have a7:=o2.at 7
           simp at a0 a1 a2 a3 a4 a5 a6 a7
           have HROW2:=hid (fun o=>(((HROW.out.turned T1.out HB.out).turned t2.2 HB.out).keep (below1 w2 (.cells #[.int .i64 x.kind,.string x.name,.int .i64 x.index,.int .i64 x.start,.int .i64 x.en,.bool x.hs,.bool x.he,.int .i64 x.stride] 35)) (Nat.le_refl _)).keep (below1 _ o) (Nat.le_refl _))
           have HW2:=hid (fun o=>(i2.alloc (.cells #[.int .i64 x.kind,.string x.name,.int .i64 x.index,.int .i64 x.start,.int .i64 x.en,.bool x.hs,.bool x.he,.int .i64 x.stride] 35)).alloc o)
           have hnew:=new_sel (w2.alloc (.cells #[.int .i64 x.kind,.string x.name,.int .i64 x.index,.int .i64 x.start,.int .i64 x.en,.bool x.hs,.bool x.he,.int .i64 x.stride] 35)) x
           have hz2:(w2.alloc (.cells #[.int .i64 x.kind,.string x.name,.int .i64 x.index,.int .i64 x.start,.int .i64 x.en,.bool x.hs,.bool x.he,.int .i64 x.stride] 35)).heap.size=w2.heap.size+1:=by simp
           rw[hz2] at hnew
           have HNEW:=hid hnew
           have HZ:=hid (fun o=>(HW2.out o).2.2.2.2.1)
           clear t2 i2 o2 hnew hz2))
      | (at_builtin
         go_must (
           refine row_append (K:=selK) _ rfl (.tmp 16) (.tmp 18) rfl W.heap.size _ acc rfl (HROW2.out _) _ 1 1 [x] rfl HNEW.out (by show _+1≤_;omega) (HZ.out _) ?_
           intro v4 w4 row4 grown4 at4
           have i4:=(HW2.out _).grown HB.out grown4 HLOW.out
           have R4:=hid row4
           have H4:=hid i4
           clear row4 grown4 at4 i4))
      | (go_at_call 36;with_reducible refine (Went.skip H4.out h19).mono ?_
         go_must (
           rintro e w5 ⟨rfl,t5,i5⟩
           rw[HT.out] at t5 i5
           have R5:=hid (R4.out.turned t5.2 HB.out)
           have H5:=hid i5
           clear i5 t5))
      | (go_at_call 15;with_reducible refine (Went.no H5.out h44).mono ?_
         go_must (
           rintro e w6 ⟨rfl,t6,i6⟩
           have R6:=hid (R5.out.turned t6.2 HB.out)
           have H6:=hid i6
           clear i6 t6))
      | (go_at_call 15;with_reducible refine (Went.yes H6.out h93).mono ?_
         go_must (
           rintro e w7 ⟨rfl,t7,i7⟩
           have R7:=hid (R6.out.turned t7.2 HB.out)
           have H7:=hid i7
           clear i7 t7)))
      go_ret2
      exact ⟨_,true,_,_,rfl,H7.out,R7.out,HA.out,by rw[HG.out];exact ⟨rfl,rfl,rfl⟩⟩
     ·have HG:=hid (show brkS l=none by
        rw[← hgo,hep,if_neg (fun e=>e.elim h93 h44)])
      clear hgo hep hrl hal hf hsr hr1 ht1
      go_wp2_with (first
      | (go_at_call 36;with_reducible refine (Went.skip HW0.out h9).mono ?_
         go_must (
           rintro e w1 ⟨rfl,t1,i1⟩
           have T1:=hid t1.2
           have H1:=hid i1
           clear i1 t1))
      | (go_at_call 54;with_reducible refine (Went.selYes H1.out hs9 HX.out).mono ?_
         go_must (
           rintro e w2 ⟨rfl,t2,i2⟩
           have o2:=Own.fresh w2 35 #[.int .i64 x.kind,.string x.name,.int .i64 x.index,.int .i64 x.start,.int .i64 x.en,.bool x.hs,.bool x.he,.int .i64 x.stride]
           have a0:=o2.at 0
           have a1:=o2.at 1
           have a2:=o2.at 2
           have a3:=o2.at 3
           have a4:=o2.at 4
           have a5:=o2.at 5
           have a6:=o2.at 6
           have a7:=o2.at 7
           simp at a0 a1 a2 a3 a4 a5 a6 a7
           have HROW2:=hid (fun o=>(((HROW.out.turned T1.out HB.out).turned t2.2 HB.out).keep (below1 w2 (.cells #[.int .i64 x.kind,.string x.name,.int .i64 x.index,.int .i64 x.start,.int .i64 x.en,.bool x.hs,.bool x.he,.int .i64 x.stride] 35)) (Nat.le_refl _)).keep (below1 _ o) (Nat.le_refl _))
           have HW2:=hid (fun o=>(i2.alloc (.cells #[.int .i64 x.kind,.string x.name,.int .i64 x.index,.int .i64 x.start,.int .i64 x.en,.bool x.hs,.bool x.he,.int .i64 x.stride] 35)).alloc o)
           have hnew:=new_sel (w2.alloc (.cells #[.int .i64 x.kind,.string x.name,.int .i64 x.index,.int .i64 x.start,.int .i64 x.en,.bool x.hs,.bool x.he,.int .i64 x.stride] 35)) x
           have hz2:(w2.alloc (.cells #[.int .i64 x.kind,.string x.name,.int .i64 x.index,.int .i64 x.start,.int .i64 x.en,.bool x.hs,.bool x.he,.int .i64 x.stride] 35)).heap.size=w2.heap.size+1:=by simp
           rw[hz2] at hnew
           have HNEW:=hid hnew
           have HZ:=hid (fun o=>(HW2.out o).2.2.2.2.1)
           clear t2 i2 o2 hnew hz2))
      | (at_builtin
         go_must (
           refine row_append (K:=selK) _ rfl (.tmp 16) (.tmp 18) rfl W.heap.size _ acc rfl (HROW2.out _) _ 1 1 [x] rfl HNEW.out (by show _+1≤_;omega) (HZ.out _) ?_
           intro v4 w4 row4 grown4 at4
           have i4:=(HW2.out _).grown HB.out grown4 HLOW.out
           have R4:=hid row4
           have H4:=hid i4
           clear row4 grown4 at4 i4))
      | (go_at_call 36;with_reducible refine (Went.skip H4.out h19).mono ?_
         go_must (
           rintro e w5 ⟨rfl,t5,i5⟩
           rw[HT.out] at t5 i5
           have R5:=hid (R4.out.turned t5.2 HB.out)
           have H5:=hid i5
           clear i5 t5))
      | (go_at_call 15;with_reducible refine (Went.no H5.out h44).mono ?_
         go_must (
           rintro e w6 ⟨rfl,t6,i6⟩
           have R6:=hid (R5.out.turned t6.2 HB.out)
           have H6:=hid i6
           clear i6 t6))
      | (go_at_call 15;with_reducible refine (Went.no H6.out h93).mono ?_
         go_must (
           rintro e w7 ⟨rfl,t7,i7⟩
           have R7:=hid (R6.out.turned t7.2 HB.out)
           have H7:=hid i7
           clear i7 t7)))
      go_ret2
      exact ⟨_,false,_,_,rfl,H7.out,R7.out,HA.out,by rw[HG.out]⟩
end
end Go.Proofs.YtmgdjlkndbejkaaGreatDoor
