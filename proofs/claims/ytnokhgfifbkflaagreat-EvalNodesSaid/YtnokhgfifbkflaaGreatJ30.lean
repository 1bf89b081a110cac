/- Lemmas. -/
import Derived.Test.YtnokhgfifbkflaaGreatProg
import Derived.Test.YtnokhgfifbkflaaGreatJ27
import Derived.Test.YtnokhgfifbkflaaGreatJ29
set_option maxRecDepth 100000
set_option maxHeartbeats 8000000
set_option linter.unusedVariables false
set_option linter.unusedSimpArgs false
namespace Go.Proofs.YtnokhgfifbkflaaGreat
open Go.Lib (hid)
section
open Go.RowKit
theorem slcR_le (a:Option Int) (r:List UInt8):(slcR a r).2.length≤r.length:=by
 unfold slcR slcE
 have l1:=skB_le r
 have l2:=intA_le (skB r)
 have l3:=skB_le (intA (skB r)).2
 have l4:=skB_le (skB (intA (skB r)).2).tail
 split
 ·have l5:(skB (intA (skB r)).2).tail.length≤(skB (intA (skB r)).2).length:=by simp
  split
  ·show (List.drop _ _).length≤_
   rw[List.length_drop];omega
  ·show (skB _).length≤_
   omega
 ·show (skB _).length≤_
  omega
theorem selR_le {l r:List UInt8} {x:Sel} (h:selR l=some (x,r)):r.length≤l.length:=by
 rw[selR_on] at h
 split at h
 ·injection h with h
  injection h with h1 h2
  rw[← h2]
  simp
 split at h
 ·obtain ⟨a,h,_⟩:=map_in (f:=fun a=>sqN a) h
  unfold sngR at h
  cases hq:trL (l.tail.length+1) l.tail with
  | none=>rw[hq] at h;cases h
  | some p =>
    rw[hq] at h
    have hl:=trL_le p hq
    have h:((readQ .plain (p.1++[34]) [] 0).map fun u=>(u.1,p.2))=some (a,r):=h
    cases hu:readQ .plain (p.1++[34]) [] 0 with
    | none=>rw[hu] at h;cases h
    | some u =>
      rw[hu] at h
      injection h with h
      injection h with h1 h2
      rw[← h2]
      simp at hl
      omega
 split at h
 ·obtain ⟨a,h,_⟩:=map_in (f:=fun a=>sqN a) h
  unfold dblR at h
  cases hu:readQ .plain l.tail [] 0 with
  | none=>rw[hu] at h;cases h
  | some u =>
    rw[hu] at h
    injection h with h
    injection h with h1 h2
    rw[← h2,List.length_drop,List.length_tail]
    omega
 have l1:=intA_le l
 have l2:=skB_le (intA l).2
 split at h
 ·injection h with h
  have:=slcR_le (intA l).1 (skB (intA l).2).tail
  rw[h] at this
  rw[List.length_tail] at this
  show r.length≤_
  have this:r.length≤_:=this
  omega
 ·cases hi:(intA l).1 with
  | none=>rw[hi] at h;cases h
  | some v =>
    rw[hi] at h
    injection h with h
    injection h with h1 h2
    rw[← h2]
    omega
theorem sel_no {b:Nat} {l:List UInt8} {W:World} (h:RdR W b l) (hl:l.length≤1000000) (hn:selR l=none) :
   Calls Tryz.prog 83 #[.pointer (some ⟨b,0,none⟩)] W fun e w' => ∃ (x:Sel) (r:List UInt8),e=.returned (.tuple #[.agg #[.int .i64 x.kind,.string x.name,.int .i64 x.index,.int .i64 x.start,.int .i64 x.en,.bool x.hs,.bool x.he,.int .i64 x.stride],.bool false])∧Went W b r w':=by
 refine (selector_any b l W h hl).mono ?_
 rintro e w' ⟨x,ok,r,rfl,hw,hm⟩
 rw[hn] at hm
 obtain rfl:ok=false:=hm
 exact ⟨x,r,rfl,hw⟩
theorem sel_yes {b:Nat} {l r:List UInt8} {x:Sel} {W:World} (h:RdR W b l) (hl:l.length≤1000000) (hn:selR l=some (x,r)) :
   Calls Tryz.prog 83 #[.pointer (some ⟨b,0,none⟩)] W fun e w'=>e=.returned (.tuple #[.agg #[.int .i64 x.kind,.string x.name,.int .i64 x.index,.int .i64 x.start,.int .i64 x.en,.bool x.hs,.bool x.he,.int .i64 x.stride],.bool true])∧Went W b r w':=by
 refine (selector_any b l W h hl).mono ?_
 rintro e w' ⟨x',ok,r',rfl,hw,hm⟩
 rw[hn] at hm
 obtain ⟨rfl,rfl,rfl⟩:=hm
 exact ⟨rfl,hw⟩
section
variable {W w w':World} {b:Nat} {r r':List UInt8}
theorem GRow.turned {α:Type} {K:RowK α} {base:Nat} {v:Value} {l:List α} (h:GRow K w base v l) (ht:Turned b w w') (hb:b<base):GRow K w' base v l :=
 h.stay fun g hg=>ht.2.2.2.2 g (h.low hg).2 (by have:=(h.low hg).1;omega)
theorem Went.skip (h:Went W b r w) (hl:r.length≤1000000):Calls Tryz.prog 54 #[.pointer (some ⟨b,0,none⟩)] w fun e w'=>e=.returned (.tuple #[])∧Went w b (skB r) w'∧Went W b (skB r) w':=by
 refine (skip_any b r w h.1 hl).mono ?_
 rintro e w' ⟨rfl,hw⟩
 exact ⟨rfl,hw,h.trans hw⟩
theorem Went.yes {c:UInt8} (h:Went W b r w) (hc:r.head?=some c):Calls Tryz.prog 34 #[.pointer (some ⟨b,0,none⟩),.string ⟨#[c]⟩] w fun e w'=>e=.returned (.bool true)∧Went w b r.tail w'∧Went W b r.tail w':=by
 cases r with
 | nil=>cases hc
 | cons d t =>
   obtain rfl:=Option.some.inj hc
   refine (take_yes b d t w h.1).mono ?_
   rintro e w' ⟨rfl,hw⟩
   exact ⟨rfl,hw,h.trans hw⟩
theorem Went.no {c:UInt8} (h:Went W b r w) (hc:r.head?≠some c):Calls Tryz.prog 34 #[.pointer (some ⟨b,0,none⟩),.string ⟨#[c]⟩] w fun e w'=>e=.returned (.bool false)∧Went w b r w'∧Went W b r w':=by
 refine (take_no b c r w h.1 hc).mono ?_
 rintro e w' ⟨rfl,hw⟩
 exact ⟨rfl,hw,h.trans hw⟩
theorem Went.selNo (h:Went W b r w) (hl:r.length≤1000000) (hn:selR r=none):Calls Tryz.prog 83 #[.pointer (some ⟨b,0,none⟩)] w fun e w' => ∃ (x:Sel) (r':List UInt8),e=.returned (.tuple #[.agg #[.int .i64 x.kind,.string x.name,.int .i64 x.index,.int .i64 x.start,.int .i64 x.en,.bool x.hs,.bool x.he,.int .i64 x.stride],.bool false])∧Went W b r' w':=by
 refine (sel_no h.1 hl hn).mono ?_
 rintro e w' ⟨x,r',rfl,hw⟩
 exact ⟨x,r',rfl,h.trans hw⟩
theorem Went.selYes {x:Sel} (h:Went W b r w) (hl:r.length≤1000000) (hn:selR r=some (x,r')):Calls Tryz.prog 83 #[.pointer (some ⟨b,0,none⟩)] w fun e w'=>e=.returned (.tuple #[.agg #[.int .i64 x.kind,.string x.name,.int .i64 x.index,.int .i64 x.start,.int .i64 x.en,.bool x.hs,.bool x.he,.int .i64 x.stride],.bool true])∧Went w b r' w'∧Went W b r' w':=by
 refine (sel_yes h.1 hl hn).mono ?_
 rintro e w' ⟨rfl,hw⟩
 exact ⟨rfl,hw,h.trans hw⟩
theorem Went.alloc (h:Went W b r w) (o:Obj):Went W b r (w.alloc o) :=
 ⟨Own.over h.1 o,h.2.trans (Turned.of_below (below1 w o) rfl)⟩
theorem Went.grown {row:Option Nat} (h:Went W b r w) (hb:b<W.heap.size) (hg:w.grownBy w' row) (hr:∀ g,row=some g→W.heap.size≤g):Went W b r w':=by
 obtain ⟨g1,g2,g3,g4,g5⟩:=hg
 have t:=h.2
 have hz:=t.2.2.2.1
 have key:∀ k,k<W.heap.size→w'.heap[k]?=w.heap[k]?:=fun k hk=>g5 k (by omega) (fun e=>by have:=hr k e.symm;omega)
 exact ⟨(key b hb).trans h.1,g1.trans t.1,g2.trans t.2.1,g3.trans t.2.2.1,Nat.le_trans hz g4,fun k hk hne=>(key k hk).trans (t.2.2.2.2 k hk hne)⟩
end
def BkEnd (l:List UInt8) (b:Nat) (W:World) (e:Ending) (w':World):Prop :=
 ∃ (v:Value) (ok:Bool) (xs:List Sel) (r:List UInt8),e=.returned (.tuple #[v,.bool ok])∧Went W b r w'∧GRow selK w' W.heap.size v xs∧xs.length≤l.length+1∧match brkS l with
   | none=>ok=false
   | some (xs',r')=>ok=true∧xs=xs'∧r=r'
def RelSs (b:Nat) (l:List UInt8) (W:World) (vo:Value) (wr:World):Prop :=
 ∃ (r:List UInt8) (acc:List Sel) (f:Nat) (V:Value),V=vo∧Went W b r wr∧GRow selK wr W.heap.size vo acc∧r.length≤l.length∧acc.length+r.length≤l.length∧r.length<f∧brkR f r acc=brkS l
theorem selectors_any (b:Nat) (l:List UInt8) (W:World) (h:RdR W b l) (hl:l.length≤1000000) :
   Calls Tryz.prog 55 #[.pointer (some ⟨b,0,none⟩)] W (BkEnd l b W):=by
 have HB:=hid h.inside
 have HR0:=hid (show RelSs b l W (.slice none 0 0) W from ⟨l,[],l.length+2,_,rfl,h.same,GRow.nil W _,Nat.le_refl _,by simp,by omega,rfl⟩)
 clear h
 go_enter Tryz.func55,Tryz.ntmps55
 go_wp2
 go_loopw [4] (fun vo wr=>RelSs b l W vo wr) (fun _ wr=>muR b wr)
 case atStart=>exact HR0.out
 case round =>
   obtain ⟨r,acc,f,V,rfl,hw,hrow,hrl,hal,hf,hgo⟩:=hrel
   obtain ⟨f,rfl⟩:∃ g,f=g+1:=⟨f-1,by omega⟩
   have HM0:=hid (muR_is hw.1)
   have h9:r.length≤1000000:=by omega
   have hs9:(skB r).length≤1000000:=Nat.le_trans (skB_le r) h9
   have hsr:=skB_le r
   have HW0:=hid hw
   have HROW:=hid hrow
   rw[brkR_on] at hgo
   unfold nxR at hgo
   clear hw
   cases hx:selR (skB r) with
   | none =>
     rw[hx] at hgo
     have HN:=hid (show brkS l=none from hgo.symm)
     have HX:=hid hx
     clear hgo hx hrow
     go_wp2_with (first
       | (go_at_call 54;with_reducible refine (Went.skip HW0.out h9).mono ?_
          go_must (
            rintro e w1 ⟨rfl,t1,i1⟩
            have H1:=hid i1
            clear i1 t1))
       | (go_at_call 83;with_reducible refine (Went.selNo H1.out hs9 HX.out).mono ?_
          go_must (
            rintro e w2 ⟨x,r2,rfl,i2⟩
            have H2:=hid (i2.alloc (.cells #[.int .i64 x.kind,.string x.name,.int .i64 x.index,.int .i64 x.start,.int .i64 x.en,.bool x.hs,.bool x.he,.int .i64 x.stride] 42))
            clear i2)))
     go_ret2
     exact ⟨_,false,[],r2,rfl,H2.out,GRow.nil _ _,by simp,by rw[HN.out]⟩
   | some p =>
     obtain ⟨x,r1⟩:=p
     rw[hx] at hgo
     have hr1:=selR_le hx
     have ht1:=skB_le r1
     have HX:=hid hx
     have h19:r1.length≤1000000:=by omega
     have hal9:acc.length≤1000000:=by omega
     have HLOW:=hid (fun g' hg'=>(hrow.low (g:=g') hg').1)
     have hgo:(match endP (x,r1) with
       | none=>none
       | some (x,t)=>if t.head?=some 44 then brkR f t.tail (acc++[x]) else some (acc++[x],t.tail))=brkS l:=hgo
     have hep:endP (x,r1)=if EndS (skB r1) then some (x,skB r1) else none:=rfl
     generalize ht:skB r1=t at *
     have HT:=hid ht
     clear hx ht hrow
     by_cases h44:t.head?=some 44
     ·have hgo:brkR f t.tail (acc++[x])=brkS l:=by
        rw[← hgo,hep,if_pos (.inr h44)]
        exact (if_pos h44).symm
      have hlt:t.tail.length<t.length:=by
        cases t with
        | nil=>cases h44
        | cons a u=>simp
      have HGO:=hid hgo
      have HLT:=hid hlt
      have HBD:=hid (show r.length≤l.length∧acc.length+r.length≤l.length∧r.length<f+1∧t.length≤r.length from ⟨hrl,hal,hf,by omega⟩)
      clear hgo hep hlt hrl hal hf hsr hr1 ht1
      go_wp2_with (first
      | (go_at_call 54;with_reducible refine (Went.skip HW0.out h9).mono ?_
         go_must (
           rintro e w1 ⟨rfl,t1,i1⟩
           have T1:=hid t1.2
           have H1:=hid i1
           clear i1 t1))
      | (go_at_call 83;with_reducible refine (Went.selYes H1.out hs9 HX.out).mono ?_
         go_must (
           rintro e w2 ⟨rfl,t2,i2⟩
           have o2:=Own.fresh w2 42 #[.int .i64 x.kind,.string x.name,.int .i64 x.index,.int .i64 x.start,.int .i64 x.en,.bool x.hs,.bool x.he,.int .i64 x.stride]
           have a0:=o2.at 0
           have a1:=o2.at 1
           have a2:=o2.at 2
           have a3:=o2.at 3
           have a4:=o2.at 4
           have a5:=o2.at 5
           have a6:=o2.at 6
           have a7:=o2.at 7
           simp at a0 a1 a2 a3 a4 a5 a6 a7
           have HROW2:=hid (fun o=>(((HROW.out.turned T1.out HB.out).turned t2.2 HB.out).keep (below1 w2 (.cells #[.int .i64 x.kind,.string x.name,.int .i64 x.index,.int .i64 x.start,.int .i64 x.en,.bool x.hs,.bool x.he,.int .i64 x.stride] 42)) (Nat.le_refl _)).keep (below1 _ o) (Nat.le_refl _))
           have HW2:=hid (fun o=>(i2.alloc (.cells #[.int .i64 x.kind,.string x.name,.int .i64 x.index,.int .i64 x.start,.int .i64 x.en,.bool x.hs,.bool x.he,.int .i64 x.stride] 42)).alloc o)
           have hnew:=new_sel (w2.alloc (.cells #[.int .i64 x.kind,.string x.name,.int .i64 x.index,.int .i64 x.start,.int .i64 x.en,.bool x.hs,.bool x.he,.int .i64 x.stride] 42)) x
           have hz2:(w2.alloc (.cells #[.int .i64 x.kind,.string x.name,.int .i64 x.index,.int .i64 x.start,.int .i64 x.en,.bool x.hs,.bool x.he,.int .i64 x.stride] 42)).heap.size=w2.heap.size+1:=by simp
           rw[hz2] at hnew
           have HNEW:=hid hnew
           have HZ:=hid (fun o=>(HW2.out o).2.2.2.2.1)
           clear t2 i2 o2 hnew hz2))
      | (at_builtin
         go_must (
           refine row_append (K:=selK) _ rfl (.tmp 16) (.tmp 18) rfl W.heap.size _ acc rfl (HROW2.out _) _ 1 1 [x] rfl HNEW.out (by show _+1≤_;omega) (HZ.out _) ?_
           intro v4 w4 row4 grown4 at4
           have i4:=(HW2.out _).grown HB.out grown4 HLOW.out
           have R4:=hid row4
           have H4:=hid i4
           clear row4 grown4 at4 i4))
      | (go_at_call 54;with_reducible refine (Went.skip H4.out h19).mono ?_
         go_must (
           rintro e w5 ⟨rfl,t5,i5⟩
           rw[HT.out] at t5 i5
           have R5:=hid (R4.out.turned t5.2 HB.out)
           have H5:=hid i5
           clear i5 t5))
      | (go_at_call 34;with_reducible refine (Went.yes H5.out h44).mono ?_
         go_must (
           rintro e w6 ⟨rfl,t6,i6⟩
           have R6:=hid (R5.out.turned t6.2 HB.out)
           have H6:=hid i6
           clear i6 t6)))
      go_roundw
      case rel=>exact ⟨t.tail,acc++[x],f,_,rfl,H6.out,R6.out,by have:=HBD.out;have:=HLT.out;omega,by have:=HBD.out;have:=HLT.out;rw[List.length_append];show acc.length+1+_≤_;omega,by have:=HBD.out;have:=HLT.out;omega,HGO.out⟩
      case measure=>rw[muR_is H6.out.1,HM0.out];have:=HBD.out;have:=HLT.out;omega
     have HA:=hid (show (acc++[x]).length≤l.length+1 by rw[List.length_append];show acc.length+1≤_;omega)
     by_cases h93:t.head?=some 93
     ·have HG:=hid (show brkS l=some (acc++[x],t.tail) by
        rw[← hgo,hep,if_pos (.inl h93)]
        exact if_neg h44)
      clear hgo hep hrl hal hf hsr hr1 ht1
      go_wp2_with (first
      | (go_at_call 54;with_reducible refine (Went.skip HW0.out h9).mono ?_
         go_must (
           rintro e w1 ⟨rfl,t1,i1⟩
           have T1:=hid t1.2
           have H1:=hid i1
           clear i1 t1))
      | (go_at_call 83;with_reducible refine (Went.selYes H1.out hs9 HX.out).mono ?_
         go_must (
           rintro e w2 ⟨rfl,t2,i2⟩
           have o2:=Own.fresh w2 42 #[.int .i64 x.kind,.string x.name,.int .i64 x.index,.int .i64 x.start,.int .i64 x.en,.bool x.hs,.bool x.he,.int .i64 x.stride]
           have a0:=o2.at 0
           have a1:=o2.at 1
           have a2:=o2.at 2
           have a3:=o2.at 3
           have a4:=o2.at 4
           have a5:=o2.at 5
           have a6:=o2.at 6
           have a7:=o2.at 7
           simp at a0 a1 a2 a3 a4 a5 a6 a7
           have HROW2:=hid (fun o=>(((HROW.out.turned T1.out HB.out).turned t2.2 HB.out).keep (below1 w2 (.cells #[.int .i64 x.kind,.string x.name,.int .i64 x.index,.int .i64 x.start,.int .i64 x.en,.bool x.hs,.bool x.he,.int .i64 x.stride] 42)) (Nat.le_refl _)).keep (below1 _ o) (Nat.le_refl _))
           have HW2:=hid (fun o=>(i2.alloc (.cells #[.int .i64 x.kind,.string x.name,.int .i64 x.index,.int .i64 x.start,.int .i64 x.en,.bool x.hs,.bool x.he,.int .i64 x.stride] 42)).alloc o)
           have hnew:=new_sel (w2.alloc (.cells #[.int .i64 x.kind,.string x.name,.int .i64 x.index,.int .i64 x.start,.int .i64 x.en,.bool x.hs,.bool x.he,.int .i64 x.stride] 42)) x
           have hz2:(w2.alloc (.cells #[.int .i64 x.kind,.string x.name,.int .i64 x.index,.int .i64 x.start,.int .i64 x.en,.bool x.hs,.bool x.he,.int .i64 x.stride] 42)).heap.size=w2.heap.size+1:=by simp
           rw[hz2] at hnew
           have HNEW:=hid hnew
           have HZ:=hid (fun o=>(HW2.out o).2.2.2.2.1)
           clear t2 i2 o2 hnew hz2))
      | (at_builtin
         go_must (
           refine row_append (K:=selK) _ rfl (.tmp 16) (.tmp 18) rfl W.heap.size _ acc rfl (HROW2.out _) _ 1 1 [x] rfl HNEW.out (by show _+1≤_;omega) (HZ.out _) ?_
           intro v4 w4 row4 grown4 at4
           have i4:=(HW2.out _).grown HB.out grown4 HLOW.out
           have R4:=hid row4
           have H4:=hid i4
           clear row4 grown4 at4 i4))
      | (go_at_call 54;with_reducible refine (Went.skip H4.out h19).mono ?_
         go_must (
           rintro e w5 ⟨rfl,t5,i5⟩
           rw[HT.out] at t5 i5
           have R5:=hid (R4.out.turned t5.2 HB.out)
           have H5:=hid i5
           clear i5 t5))
      | (go_at_call 34;with_reducible refine (Went.no H5.out h44).mono ?_
         go_must (
           rintro e w6 ⟨rfl,t6,i6⟩
           have R6:=hid (R5.out.turned t6.2 HB.out)
           have H6:=hid i6
           clear i6 t6))
      | (go_at_call 34;with_reducible refine (Went.yes H6.out h93).mono ?_
         go_must (
           rintro e w7 ⟨rfl,t7,i7⟩
           have R7:=hid (R6.out.turned t7.2 HB.out)
           have H7:=hid i7
           clear i7 t7)))
      go_ret2
      exact ⟨_,true,_,_,rfl,H7.out,R7.out,HA.out,by rw[HG.out];exact ⟨rfl,rfl,rfl⟩⟩
     ·have HG:=hid (show brkS l=none by
        rw[← hgo,hep,if_neg (fun e=>e.elim h93 h44)])
      clear hgo hep hrl hal hf hsr hr1 ht1
      go_wp2_with (first
      | (go_at_call 54;with_reducible refine (Went.skip HW0.out h9).mono ?_
         go_must (
           rintro e w1 ⟨rfl,t1,i1⟩
           have T1:=hid t1.2
           have H1:=hid i1
           clear i1 t1))
      | (go_at_call 83;with_reducible refine (Went.selYes H1.out hs9 HX.out).mono ?_
         go_must (
           rintro e w2 ⟨rfl,t2,i2⟩
           have o2:=Own.fresh w2 42 #[.int .i64 x.kind,.string x.name,.int .i64 x.index,.int .i64 x.start,.int .i64 x.en,.bool x.hs,.bool x.he,.int .i64 x.stride]
           have a0:=o2.at 0
           have a1:=o2.at 1
           have a2:=o2.at 2
           have a3:=o2.at 3
           have a4:=o2.at 4
           have a5:=o2.at 5
           have a6:=o2.at 6
           have a7:=o2.at 7
           simp at a0 a1 a2 a3 a4 a5 a6 a7
           have HROW2:=hid (fun o=>(((HROW.out.turned T1.out HB.out).turned t2.2 HB.out).keep (below1 w2 (.cells #[.int .i64 x.kind,.string x.name,.int .i64 x.index,.int .i64 x.start,.int .i64 x.en,.bool x.hs,.bool x.he,.int .i64 x.stride] 42)) (Nat.le_refl _)).keep (below1 _ o) (Nat.le_refl _))
           have HW2:=hid (fun o=>(i2.alloc (.cells #[.int .i64 x.kind,.string x.name,.int .i64 x.index,.int .i64 x.start,.int .i64 x.en,.bool x.hs,.bool x.he,.int .i64 x.stride] 42)).alloc o)
           have hnew:=new_sel (w2.alloc (.cells #[.int .i64 x.kind,.string x.name,.int .i64 x.index,.int .i64 x.start,.int .i64 x.en,.bool x.hs,.bool x.he,.int .i64 x.stride] 42)) x
           have hz2:(w2.alloc (.cells #[.int .i64 x.kind,.string x.name,.int .i64 x.index,.int .i64 x.start,.int .i64 x.en,.bool x.hs,.bool x.he,.int .i64 x.stride] 42)).heap.size=w2.heap.size+1:=by simp
           rw[hz2] at hnew
           have HNEW:=hid hnew
           have HZ:=hid (fun o=>(HW2.out o).2.2.2.2.1)
           clear t2 i2 o2 hnew hz2))
      | (at_builtin
         go_must (
           refine row_append (K:=selK) _ rfl (.tmp 16) (.tmp 18) rfl W.heap.size _ acc rfl (HROW2.out _) _ 1 1 [x] rfl HNEW.out (by show _+1≤_;omega) (HZ.out _) ?_
           intro v4 w4 row4 grown4 at4
           have i4:=(HW2.out _).grown HB.out grown4 HLOW.out
           have R4:=hid row4
           have H4:=hid i4
           clear row4 grown4 at4 i4))
      | (go_at_call 54;with_reducible refine (Went.skip H4.out h19).mono ?_
         go_must (
           rintro e w5 ⟨rfl,t5,i5⟩
           rw[HT.out] at t5 i5
           have R5:=hid (R4.out.turned t5.2 HB.out)
           have H5:=hid i5
           clear i5 t5))
      | (go_at_call 34;with_reducible refine (Went.no H5.out h44).mono ?_
         go_must (
           rintro e w6 ⟨rfl,t6,i6⟩
           have R6:=hid (R5.out.turned t6.2 HB.out)
           have H6:=hid i6
           clear i6 t6))
      | (go_at_call 34;with_reducible refine (Went.no H6.out h93).mono ?_
         go_must (
           rintro e w7 ⟨rfl,t7,i7⟩
           have R7:=hid (R6.out.turned t7.2 HB.out)
           have H7:=hid i7
           clear i7 t7)))
      go_ret2
      exact ⟨_,false,_,_,rfl,H7.out,R7.out,HA.out,by rw[HG.out]⟩
end
section
open Go.RowKit
theorem Went.rd {W w:World}{b:Nat}{l:List UInt8}(h:Went W b l w):RdR w b l:=h.1
def SlE (o:Option (List Sel×List UInt8)) (n:Nat) (b:Nat) (W:World) (e:Ending) (w':World):Prop :=
 ∃ (A:Option Addr) (c:Nat) (ok:Bool) (xs:List Sel) (r:List UInt8),e=.returned (.tuple #[.slice A xs.length c,.bool ok])∧Went W b r w'∧GRow selK w' W.heap.size (.slice A xs.length c) xs∧xs.length≤n∧match o with
   | none=>ok=false
   | some (xs',r')=>ok=true∧xs=xs'∧r=r'
theorem slE_of {l:List UInt8} {b:Nat} {W w':World} {e:Ending} (h:BkEnd l b W e w'):SlE (brkS l) (l.length+1) b W e w':=by
 obtain ⟨v,ok,xs,r,rfl,hw,hr,hl,hm⟩:=h
 obtain ⟨A,c,rfl,_⟩:=hr.form
 exact ⟨A,c,ok,xs,r,rfl,hw,hr,hl,hm⟩
theorem pln_small (l:List UInt8):(⟨(l.take (plnN false l)).toArray⟩:ByteArray).size=plnN false l:=by
 show (l.take (plnN false l)).length=_
 rw[List.length_take]
 exact Nat.min_eq_left (pln_le false l)
theorem short_any (b:Nat) (l:List UInt8) (W:World) (h:RdR W b l) (hl:l.length≤1000000) :
   Calls Tryz.prog 56 #[.pointer (some ⟨b,0,none⟩)] W (SlE (shtR l) (l.length+1) b W):=by
 have HB:=hid h.inside
 have HW:=hid h
 by_cases h42:l.head?=some 42
 ·have HS := hid (show shtR l=some ([sqA],l.tail) from if_pos h42)
  clear h
  go_enter Tryz.func56,Tryz.ntmps56
  go_wp2_with (first
    | (go_at_call 34;with_reducible refine (Went.yes HW.out.same h42).mono ?_
       go_must (
         rintro e w1 ⟨rfl,t1,i1⟩
         have H1:=hid i1
         clear i1 t1)))
  go_ret2
  have hr:=GRow.made (K:=selK) (base:=W.heap.size) (l:=[sqA]) w1 _ rfl (show 1≤maxLen by decide) H1.out.2.2.2.2.1
  exact ⟨_,1,true,[sqA],_,rfl,H1.out.alloc _,hr,by simp,by rw[HS.out];exact ⟨rfl,rfl,rfl⟩⟩
 ·have hps := pln_small l
  by_cases h0:plnN false l=0
  ·have HS := hid (show shtR l=none by unfold shtR;rw[if_neg h42,if_pos h0])
   have hnm:(⟨(l.take (plnN false l)).toArray⟩:ByteArray)=⟨#[]⟩:=by rw[h0];rfl
   have KP:=hid (fun w (h:RdR w b l)=>plain_any b l w h hl)
   rw[hnm] at KP
   generalize l.drop (plnN false l)=r9 at *
   clear h h0 hps hnm
   go_enter Tryz.func56,Tryz.ntmps56
   go_wp2_with (first
     | (go_at_call 34;with_reducible refine (Went.no HW.out.same h42).mono ?_
        go_must (
          rintro e w1 ⟨rfl,t1,i1⟩
          have H1:=hid i1
          clear i1 t1))
     | (go_at_call 84;with_reducible refine (KP.out _ (Went.rd H1.out)).mono ?_
        go_must (
          rintro e w2 ⟨rfl,t2⟩
          have H2:=hid (H1.out.trans t2)
          clear t2)))
   go_ret2
   have hr:=GRow.made (K:=selK) (base:=W.heap.size) (l:=[sqN []]) w2 _ rfl (show 1≤maxLen by decide) H2.out.2.2.2.2.1
   exact ⟨_,1,false,[sqN []],_,rfl,H2.out.alloc _,hr,by simp,by rw[HS.out]⟩
  ·have HS := hid (show shtR l=some ([sqN (l.take (plnN false l))],l.drop (plnN false l)) by unfold shtR;rw[if_neg h42,if_neg h0])
   have KP:=hid (fun w (h:RdR w b l)=>plain_any b l w h hl)
   have hne:=isEmpty_no (⟨(l.take (plnN false l)).toArray⟩:ByteArray) (by rw[hps];exact h0)
   generalize hnm:(⟨(l.take (plnN false l)).toArray⟩:ByteArray)=nm at *
   have HNM:=hid hnm
   generalize hr9:l.drop (plnN false l)=r9 at *
   clear h h0 hps hnm hr9
   go_enter Tryz.func56,Tryz.ntmps56
   go_wp2_with (first
     | (go_at_call 34;with_reducible refine (Went.no HW.out.same h42).mono ?_
        go_must (
          rintro e w1 ⟨rfl,t1,i1⟩
          have H1:=hid i1
          clear i1 t1))
     | (go_at_call 84;with_reducible refine (KP.out _ (Went.rd H1.out)).mono ?_
        go_must (
          rintro e w2 ⟨rfl,t2⟩
          have H2:=hid (H1.out.trans t2)
          clear t2)))
   go_ret2
   have hr:=GRow.made (K:=selK) (base:=W.heap.size) (l:=[sqN (l.take (plnN false l))]) w2 #[.int .i64 0,.string nm,.int .i64 0,.int .i64 0,.int .i64 0,.bool false,.bool false,.int .i64 0] (by rw[← HNM.out];rfl) (show 1≤maxLen by decide) H2.out.2.2.2.2.1
   exact ⟨_,1,true,[sqN (l.take (plnN false l))],_,rfl,H2.out.alloc _,hr,by simp,by rw[HS.out];exact ⟨rfl,rfl,rfl⟩⟩
def SgI (W:World) (b:Nat) (r:List UInt8) (d:Bool) (v:Value) (w:World):Prop :=
 b<W.heap.size∧r.length≤1000000∧Went W b r w∧Own w W.heap.size 40 #[.bool d,v]
section
variable {W w w':World} {b:Nat} {r r':List UInt8} {d:Bool} {v:Value}
theorem SgI.went (h:SgI W b r d v w) (hw:Went w b r' w') (hl:r'.length≤r.length):SgI W b r' d v w' :=
 ⟨h.1,Nat.le_trans hl h.2.1,h.2.2.1.trans hw,Own.turned h.2.2.2 hw.2 (by have:=h.1;omega)⟩
theorem SgI.skip (h:SgI W b r d v w):Calls Tryz.prog 54 #[.pointer (some ⟨b,0,none⟩)] w fun e w'=>e=.returned (.tuple #[])∧SgI W b (skB r) d v w':=by
 refine (skip_any b r w h.2.2.1.1 h.2.1).mono ?_
 rintro e w' ⟨rfl,hw⟩
 exact ⟨rfl,h.went hw (skB_le r)⟩
theorem SgI.yes {c:UInt8} (h:SgI W b r d v w) (hc:r.head?=some c):Calls Tryz.prog 34 #[.pointer (some ⟨b,0,none⟩),.string ⟨#[c]⟩] w fun e w'=>e=.returned (.bool true)∧SgI W b r.tail d v w':=by
 refine (Went.yes h.2.2.1.1.same hc).mono ?_
 rintro e w' ⟨rfl,hw,_⟩
 exact ⟨rfl,h.went hw (by simp)⟩
theorem SgI.no {c:UInt8} (h:SgI W b r d v w) (hc:r.head?≠some c):Calls Tryz.prog 34 #[.pointer (some ⟨b,0,none⟩),.string ⟨#[c]⟩] w fun e w'=>e=.returned (.bool false)∧SgI W b r d v w':=by
 refine (Went.no h.2.2.1.1.same hc).mono ?_
 rintro e w' ⟨rfl,hw,_⟩
 exact ⟨rfl,h.went hw (Nat.le_refl _)⟩
theorem SgI.yes2 {t:List UInt8} {c e:UInt8} (h:SgI W b (c :: e :: t) d v w):Calls Tryz.prog 34 #[.pointer (some ⟨b,0,none⟩),.string ⟨#[c,e]⟩] w fun e w'=>e=.returned (.bool true)∧SgI W b t d v w':=by
 refine (take_two_yes b c e t w h.2.2.1.1).mono ?_
 rintro e w' ⟨rfl,hw⟩
 exact ⟨rfl,h.went hw (by simp<;>omega)⟩
theorem SgI.no2 {c e:UInt8} (h:SgI W b r d v w) (hc:r.take 2≠[c,e]):Calls Tryz.prog 34 #[.pointer (some ⟨b,0,none⟩),.string ⟨#[c,e]⟩] w fun e w'=>e=.returned (.bool false)∧SgI W b r d v w':=by
 refine (take_two_no b c e r w h.2.2.1.1 hc).mono ?_
 rintro e w' ⟨rfl,hw⟩
 exact ⟨rfl,h.went hw (Nat.le_refl _)⟩
theorem setwq {W w:World} {b:Nat} {r:List UInt8} (h:Went W b r w) (hb:b<W.heap.size) (i:Nat) (u:Value):Went W b r (w.setCell ⟨W.heap.size,i,none⟩ u) :=
 ⟨h.1.past (by show b≠W.heap.size;omega) u,by
   have t:=h.2
   refine ⟨t.1,t.2.1,t.2.2.1,by simpa [World.setCell] using t.2.2.2.1,fun k hk hne=>(Below.heap_setCell w ⟨W.heap.size,i,none⟩ u k (by show k≠W.heap.size;omega)).trans (t.2.2.2.2 k hk hne)⟩⟩
theorem SgI.deep (h:SgI W b r d v w) (e:Bool):SgI W b r e v (w.setCell ⟨W.heap.size,0,none⟩ (.bool e)) :=
 ⟨h.1,h.2.1,setwq h.2.2.1 h.1 0 _,by simpa using Own.put h.2.2.2 0 (.bool e)⟩
def SgS (W:World) (b:Nat) (o:Option (List Sel×List UInt8)) (n:Nat) (d:Bool) (v:Value) (A:Option Addr) (c:Nat) (ok:Bool) (xs:List Sel) (w:World):Prop :=
 ∃ r,b<W.heap.size∧Went W b r w∧Own w W.heap.size 40 #[.bool d,v]∧GRow selK w (W.heap.size+1) (.slice A xs.length c) xs∧xs.length≤n∧match o with
   | none=>ok=false
   | some (xs',r')=>ok=true∧xs=xs'∧r=r'
theorem SgI.made {e:Ending} {o:Option (List Sel×List UInt8)} {n:Nat} (h:SgI W b r d v w) (hs:SlE o n b w e w'):∃ A c ok xs,e=.returned (.tuple #[.slice A (List.length xs) c,.bool ok])∧SgS W b o n d v A c ok xs w':=by
 obtain ⟨A,c,ok,xs,r',rfl,hw,hr,hl,hm⟩:=hs
 have hi:=h.2.2.2.inside
 exact ⟨A,c,ok,xs,rfl,r',h.1,h.2.2.1.trans hw,Own.turned h.2.2.2 hw.2 (by have:=h.1;omega),hr.mono (by omega),hl,hm⟩
theorem SgI.selectors (h:SgI W b r d v w):Calls Tryz.prog 55 #[.pointer (some ⟨b,0,none⟩)] w fun e w' => ∃ A c ok xs,e=.returned (.tuple #[.slice A (List.length xs) c,.bool ok])∧SgS W b (brkS r) (r.length+1) d v A c ok xs w' :=
 (selectors_any b r w h.2.2.1.1 h.2.1).mono fun e w' hs=>h.made (slE_of hs)
theorem SgI.short (h:SgI W b r d v w):Calls Tryz.prog 56 #[.pointer (some ⟨b,0,none⟩)] w fun e w' => ∃ A c ok xs,e=.returned (.tuple #[.slice A (List.length xs) c,.bool ok])∧SgS W b (shtR r) (r.length+1) d v A c ok xs w' :=
 (short_any b r w h.2.2.1.1 h.2.1).mono fun e w' hs=>h.made hs
end
theorem SgI.start {W:World} {b:Nat} {r:List UInt8} (h:RdR W b r) (hl:r.length≤1000000):SgI W b r false (.slice none 0 0) (W.alloc (.cells #[.bool false,.slice none 0 0] 40)) :=
 ⟨h.inside,hl,Went.new h (below1 W _),Own.fresh W 40 _⟩
def SmE (l:List UInt8) (b:Nat) (W:World) (e:Ending) (w':World):Prop :=
 ∃ (d:Bool) (A:Option Addr) (c:Nat) (ok:Bool) (xs:List Sel) (r:List UInt8),e=.returned (.tuple #[.agg #[.bool d,.slice A xs.length c],.bool ok])∧Went W b r w'∧GRow selK w' W.heap.size (.slice A xs.length c) xs∧xs.length≤l.length+1∧match sgmP (skB l) with
   | none=>ok=false
   | some (x,r')=>ok=true∧x=⟨d,xs⟩∧r=r'
theorem SmE.of {l:List UInt8} {b n:Nat} {W w w':World} {e:Ending} {o:Option (List Sel×List UInt8)} {d:Bool} {v:Value} {A:Option Addr} {c:Nat} {ok:Bool} {xs:List Sel} (h:SgS W b o n d v A c ok xs w) (hn:n≤l.length+1)
   (ho:sgmP (skB l)=o.map fun p=>(⟨d,p.1⟩,p.2)) (he:e=.returned (.tuple #[.agg #[.bool d,.slice A xs.length c],.bool ok])) (hw':∀ r,Went W b r w→Went W b r w') (hr':GRow selK w (W.heap.size+1) (.slice A xs.length c) xs→GRow selK w' (W.heap.size+1) (.slice A xs.length c) xs):SmE l b W e w':=by
 obtain ⟨r,hb,hw,hown,hr,hl,hm⟩:=h
 refine ⟨d,A,c,ok,xs,r,he,hw' r hw,(hr' hr).mono (by omega),by omega,?_⟩
 rw[ho]
 cases o with
 | none=>exact hm
 | some p=>obtain ⟨h1,h2,h3⟩:=hm;exact ⟨h1,by rw[h2],h3⟩
theorem row_set {w:World} {B:Nat} {v u:Value} {xs:List Sel} (h:GRow selK w (B+1) v xs) (i:Nat):GRow selK (w.setCell ⟨B,i,none⟩ u) (B+1) v xs :=
 h.stay fun g hg=>Below.heap_setCell w ⟨B,i,none⟩ u g (by have:=(h.low hg).1;show g≠B;omega)
theorem seg_deep_brk (b:Nat) (l:List UInt8) (W:World) (h:RdR W b l) (hl:l.length≤1000000) (r:List UInt8) (hdd:skB l=46 :: 46 :: r) (h91:r.head?=some 91) :
   Calls Tryz.prog 35 #[.pointer (some ⟨b,0,none⟩)] W (SmE l b W):=by
 have H0:=hid (SgI.start h hl)
 have hsl:=skB_le l
 have HB:=hid h.inside
 have HS:=hid (show sgmP (skB l)=(brkS r.tail).map fun p=>(⟨true,p.1⟩,p.2) by rw[hdd];unfold sgmP;rw[if_pos (show (46 :: 46 :: r).take 2=[46,46] from rfl),if_pos (show ((46 :: 46 :: r).drop 2).head?=some 91 from h91)];rfl)
 have HN:=hid (show r.tail.length+1≤l.length+1 by rw[hdd] at hsl;simp at hsl ⊢;omega)
 clear hsl
 clear h hl
 go_enter Tryz.func35,Tryz.ntmps35
 go_wp2_with (first
   | (go_at_call 54;with_reducible refine (SgI.skip H0.out).mono ?_
      go_must (
        rintro e w1 ⟨rfl,i1⟩
        rw[hdd] at i1
        have H1:=hid i1
        clear i1))
   | (go_at_call 34;with_reducible refine (SgI.yes2 H1.out).mono ?_
      go_must (
        rintro e w2 ⟨rfl,i2⟩
        have c0:w2.cell? ⟨W.heap.size,0,none⟩=some (.bool false):=i2.2.2.2.at 0
        have f0:=i2.2.2.2.free 0
        have H2:=hid (i2.deep true)
        clear i2))
   | (go_at_call 34;with_reducible refine (SgI.yes H2.out h91).mono ?_
      go_must (
        rintro e w3 ⟨rfl,i3⟩
        have H3:=hid i3
        clear i3))
   | (go_at_call 55;with_reducible refine (SgI.selectors H3.out).mono ?_
      go_must (
        rintro e w4 ⟨A,c,ok,xs,rfl,i4⟩
        have ho:=i4.elim fun _ h=>h.2.2.1
        have a0:w4.cell? ⟨W.heap.size,0,none⟩=some (.bool true):=ho.at 0
        have a1:w4.cell? ⟨W.heap.size,1,none⟩=some (.slice none 0 0):=ho.at 1
        have g0:=ho.free 0
        have g1:=ho.free 1
        have HO:=hid ho
        have H4:=hid i4
        clear i4 ho)))
 have ho:=((HO.out.put 1 (.slice A xs.length c)).put 0 (.bool true)).put 1 (.slice A xs.length c)
 simp at ho
 have z0:=ho.at 0
 have z1:=ho.at 1
 simp at z0 z1
 refine bodyPost_ret (by simp[results,Tryz.results35,go_sem,z0,z1];try rfl) rfl ?_
 exact SmE.of H4.out HN.out HS.out rfl (fun r hw=>setwq (setwq (setwq hw HB.out 1 _) HB.out 0 _) HB.out 1 _) (fun hr=>row_set (row_set (row_set hr 1) 0) 1)
theorem seg_deep_short (b:Nat) (l:List UInt8) (W:World) (h:RdR W b l) (hl:l.length≤1000000) (r:List UInt8) (hdd:skB l=46 :: 46 :: r) (h91:r.head?≠some 91) :
   Calls Tryz.prog 35 #[.pointer (some ⟨b,0,none⟩)] W (SmE l b W):=by
 have H0:=hid (SgI.start h hl)
 have hsl:=skB_le l
 have HB:=hid h.inside
 have HS:=hid (show sgmP (skB l)=(shtR r).map fun p=>(⟨true,p.1⟩,p.2) by rw[hdd];unfold sgmP;rw[if_pos (show (46 :: 46 :: r).take 2=[46,46] from rfl),if_neg (show ¬ ((46 :: 46 :: r).drop 2).head?=some 91 from h91)];rfl)
 have HN:=hid (show r.length+1≤l.length+1 by rw[hdd] at hsl;simp at hsl ⊢;omega)
 clear hsl
 clear h hl
 go_enter Tryz.func35,Tryz.ntmps35
 go_wp2_with (first
   | (go_at_call 54;with_reducible refine (SgI.skip H0.out).mono ?_
      go_must (
        rintro e w1 ⟨rfl,i1⟩
        rw[hdd] at i1
        have H1:=hid i1
        clear i1))
   | (go_at_call 34;with_reducible refine (SgI.yes2 H1.out).mono ?_
      go_must (
        rintro e w2 ⟨rfl,i2⟩
        have c0:w2.cell? ⟨W.heap.size,0,none⟩=some (.bool false):=i2.2.2.2.at 0
        have f0:=i2.2.2.2.free 0
        have H2:=hid (i2.deep true)
        clear i2))
   | (go_at_call 34;with_reducible refine (SgI.no H2.out h91).mono ?_
      go_must (
        rintro e w3 ⟨rfl,i3⟩
        have k0:w3.cell? ⟨W.heap.size,0,none⟩=some (.bool true):=i3.2.2.2.at 0
        have H3:=hid i3
        clear i3))
   | (go_at_call 56;with_reducible refine (SgI.short H3.out).mono ?_
      go_must (
        rintro e w4 ⟨A,c,ok,xs,rfl,i4⟩
        have ho:=i4.elim fun _ h=>h.2.2.1
        have a0:w4.cell? ⟨W.heap.size,0,none⟩=some (.bool true):=ho.at 0
        have a1:w4.cell? ⟨W.heap.size,1,none⟩=some (.slice none 0 0):=ho.at 1
        have g0:=ho.free 0
        have g1:=ho.free 1
        have HO:=hid ho
        have H4:=hid i4
        clear i4 ho)))
 have ho:=((HO.out.put 1 (.slice A xs.length c)).put 0 (.bool true)).put 1 (.slice A xs.length c)
 simp at ho
 have z0:=ho.at 0
 have z1:=ho.at 1
 simp at z0 z1
 refine bodyPost_ret (by simp[results,Tryz.results35,go_sem,z0,z1];try rfl) rfl ?_
 exact SmE.of H4.out HN.out HS.out rfl (fun r hw=>setwq (setwq (setwq hw HB.out 1 _) HB.out 0 _) HB.out 1 _) (fun hr=>row_set (row_set (row_set hr 1) 0) 1)
theorem seg_brk (b:Nat) (l:List UInt8) (W:World) (h:RdR W b l) (hl:l.length≤1000000) (hdd:(skB l).take 2≠[46,46]) (h91:(skB l).head?=some 91) :
   Calls Tryz.prog 35 #[.pointer (some ⟨b,0,none⟩)] W (SmE l b W):=by
 have H0:=hid (SgI.start h hl)
 have hsl:=skB_le l
 have HB:=hid h.inside
 have HS:=hid (show sgmP (skB l)=(brkS (skB l).tail).map fun p=>(⟨false,p.1⟩,p.2) by unfold sgmP;rw[if_neg hdd,if_pos h91])
 have HN:=hid (show (skB l).tail.length+1≤l.length+1 by simp;omega)
 clear hsl
 clear h hl
 go_enter Tryz.func35,Tryz.ntmps35
 go_wp2_with (first
   | (go_at_call 54;with_reducible refine (SgI.skip H0.out).mono ?_
      go_must (
        rintro e w1 ⟨rfl,i1⟩
        have H1:=hid i1
        clear i1))
   | (go_at_call 34;with_reducible refine (SgI.no2 H1.out hdd).mono ?_
      go_must (
        rintro e w2 ⟨rfl,i2⟩
        have c0:w2.cell? ⟨W.heap.size,0,none⟩=some (.bool false):=i2.2.2.2.at 0
        have f0:=i2.2.2.2.free 0
        have H2:=hid (i2.deep false)
        clear i2))
   | (go_at_call 34;with_reducible refine (SgI.yes H2.out h91).mono ?_
      go_must (
        rintro e w3 ⟨rfl,i3⟩
        have H3:=hid i3
        clear i3))
   | (go_at_call 55;with_reducible refine (SgI.selectors H3.out).mono ?_
      go_must (
        rintro e w4 ⟨A,c,ok,xs,rfl,i4⟩
        have ho:=i4.elim fun _ h=>h.2.2.1
        have a0:w4.cell? ⟨W.heap.size,0,none⟩=some (.bool false):=ho.at 0
        have a1:w4.cell? ⟨W.heap.size,1,none⟩=some (.slice none 0 0):=ho.at 1
        have g0:=ho.free 0
        have g1:=ho.free 1
        have HO:=hid ho
        have H4:=hid i4
        clear i4 ho)))
 have ho:=((HO.out.put 1 (.slice A xs.length c)).put 0 (.bool false)).put 1 (.slice A xs.length c)
 simp at ho
 have z0:=ho.at 0
 have z1:=ho.at 1
 simp at z0 z1
 refine bodyPost_ret (by simp[results,Tryz.results35,go_sem,z0,z1];try rfl) rfl ?_
 exact SmE.of H4.out HN.out HS.out rfl (fun r hw=>setwq (setwq (setwq hw HB.out 1 _) HB.out 0 _) HB.out 1 _) (fun hr=>row_set (row_set (row_set hr 1) 0) 1)
theorem seg_short (b:Nat) (l:List UInt8) (W:World) (h:RdR W b l) (hl:l.length≤1000000) (hdd:(skB l).take 2≠[46,46]) (h91:(skB l).head?≠some 91) (h46:(skB l).head?=some 46) :
   Calls Tryz.prog 35 #[.pointer (some ⟨b,0,none⟩)] W (SmE l b W):=by
 have H0:=hid (SgI.start h hl)
 have hsl:=skB_le l
 have HB:=hid h.inside
 have HS:=hid (show sgmP (skB l)=(shtR (skB l).tail).map fun p=>(⟨false,p.1⟩,p.2) by unfold sgmP;rw[if_neg hdd,if_neg h91,if_pos h46])
 have HN:=hid (show (skB l).tail.length+1≤l.length+1 by simp;omega)
 clear hsl
 clear h hl
 go_enter Tryz.func35,Tryz.ntmps35
 go_wp2_with (first
   | (go_at_call 54;with_reducible refine (SgI.skip H0.out).mono ?_
      go_must (
        rintro e w1 ⟨rfl,i1⟩
        have H1:=hid i1
        clear i1))
   | (go_at_call 34;with_reducible refine (SgI.no2 H1.out hdd).mono ?_
      go_must (
        rintro e w2 ⟨rfl,i2⟩
        have c0:w2.cell? ⟨W.heap.size,0,none⟩=some (.bool false):=i2.2.2.2.at 0
        have f0:=i2.2.2.2.free 0
        have H2:=hid (i2.deep false)
        clear i2))
   | (go_at_call 34;with_reducible refine (SgI.no H2.out h91).mono ?_
      go_must (
        rintro e w3 ⟨rfl,i3⟩
        have k0:w3.cell? ⟨W.heap.size,0,none⟩=some (.bool false):=i3.2.2.2.at 0
        have H3:=hid i3
        clear i3))
   | (go_at_call 34;with_reducible refine (SgI.yes H3.out h46).mono ?_
      go_must (
        rintro e w4 ⟨rfl,i4⟩
        have H4:=hid i4
        clear i4))
   | (go_at_call 56;with_reducible refine (SgI.short H4.out).mono ?_
      go_must (
        rintro e w5 ⟨A,c,ok,xs,rfl,i5⟩
        have ho:=i5.elim fun _ h=>h.2.2.1
        have a0:w5.cell? ⟨W.heap.size,0,none⟩=some (.bool false):=ho.at 0
        have a1:w5.cell? ⟨W.heap.size,1,none⟩=some (.slice none 0 0):=ho.at 1
        have g0:=ho.free 0
        have g1:=ho.free 1
        have HO:=hid ho
        have H5:=hid i5
        clear i5 ho)))
 have ho:=((HO.out.put 1 (.slice A xs.length c)).put 0 (.bool false)).put 1 (.slice A xs.length c)
 simp at ho
 have z0:=ho.at 0
 have z1:=ho.at 1
 simp at z0 z1
 refine bodyPost_ret (by simp[results,Tryz.results35,go_sem,z0,z1];try rfl) rfl ?_
 exact SmE.of H5.out HN.out HS.out rfl (fun r hw=>setwq (setwq (setwq hw HB.out 1 _) HB.out 0 _) HB.out 1 _) (fun hr=>row_set (row_set (row_set hr 1) 0) 1)
theorem seg_none (b:Nat) (l:List UInt8) (W:World) (h:RdR W b l) (hl:l.length≤1000000) (hdd:(skB l).take 2≠[46,46]) (h91:(skB l).head?≠some 91) (h46:(skB l).head?≠some 46) :
   Calls Tryz.prog 35 #[.pointer (some ⟨b,0,none⟩)] W (SmE l b W):=by
 have H0:=hid (SgI.start h hl)
 have hsl:=skB_le l
 have HB:=hid h.inside
 have HS:=hid (show sgmP (skB l)=none by unfold sgmP;rw[if_neg hdd,if_neg h91,if_neg h46])
 clear hsl
 clear h hl
 go_enter Tryz.func35,Tryz.ntmps35
 go_wp2_with (first
   | (go_at_call 54;with_reducible refine (SgI.skip H0.out).mono ?_
      go_must (
        rintro e w1 ⟨rfl,i1⟩
        have H1:=hid i1
        clear i1))
   | (go_at_call 34;with_reducible refine (SgI.no2 H1.out hdd).mono ?_
      go_must (
        rintro e w2 ⟨rfl,i2⟩
        have c0:w2.cell? ⟨W.heap.size,0,none⟩=some (.bool false):=i2.2.2.2.at 0
        have f0:=i2.2.2.2.free 0
        have H2:=hid (i2.deep false)
        clear i2))
   | (go_at_call 34;with_reducible refine (SgI.no H2.out h91).mono ?_
      go_must (
        rintro e w3 ⟨rfl,i3⟩
        have k0:w3.cell? ⟨W.heap.size,0,none⟩=some (.bool false):=i3.2.2.2.at 0
        have H3:=hid i3
        clear i3))
   | (go_at_call 34;with_reducible refine (SgI.no H3.out h46).mono ?_
      go_must (
        rintro e w4 ⟨rfl,i4⟩
        have a0:w4.cell? ⟨W.heap.size,0,none⟩=some (.bool false):=i4.2.2.2.at 0
        have a1:w4.cell? ⟨W.heap.size,1,none⟩=some (.slice none 0 0):=i4.2.2.2.at 1
        have g0:=i4.2.2.2.free 0
        have g1:=i4.2.2.2.free 1
        have HO:=hid i4.2.2.2
        have H4:=hid i4
        clear i4)))
 have ho:=(HO.out.put 0 (.bool false)).put 1 (.slice none 0 0)
 simp at ho
 have z0:=ho.at 0
 have z1:=ho.at 1
 simp at z0 z1
 refine bodyPost_ret (by simp[results,Tryz.results35,go_sem,z0,z1];try rfl) rfl ?_
 exact ⟨false,none,0,false,[],_,rfl,setwq (setwq H4.out.2.2.1 HB.out 0 _) HB.out 1 _,GRow.nil _ _,by simp,by rw[HS.out]⟩
theorem segment_any (b:Nat) (l:List UInt8) (W:World) (h:RdR W b l) (hl:l.length≤1000000) :
   Calls Tryz.prog 35 #[.pointer (some ⟨b,0,none⟩)] W (SmE l b W):=by
 by_cases hdd:(skB l).take 2=[46,46]
 ·obtain ⟨r,hr⟩:=two_dots hdd
  by_cases h91:r.head?=some 91
  ·exact seg_deep_brk b l W h hl r hr h91
  ·exact seg_deep_short b l W h hl r hr h91
 by_cases h91:(skB l).head?=some 91
 ·exact seg_brk b l W h hl hdd h91
 by_cases h46:(skB l).head?=some 46
 ·exact seg_short b l W h hl hdd h91 h46
 ·exact seg_none b l W h hl hdd h91 h46
end
section
open Go.RowKit
theorem QaEnd.no {l:List UInt8}{W w':World}(h:queQ l=none)(hb:Below W.heap.size W w'):QaEnd l W (.returned (.tuple #[.slice none 0 0,.bool false])) w':=qa_of (QpEnd.no h hb)
theorem QaEnd.yes {l:List UInt8} {W w':World} {base:Nat} {v:Value} {xs:List Sgm} (h:queQ l=some xs) (hq:QIs w' base v xs) (hl:xs.length≤l.length) (hb:Below W.heap.size W w'):QaEnd l W (.returned (.tuple #[v,.bool true])) w':=by
 obtain ⟨A,c,rfl,hr⟩:=qrd_of hq
 exact ⟨A,xs.length,c,by rw[h];rfl,by rw[h];exact hr,hl,hb⟩
theorem RdR.start (W:World) (s:ByteArray):RdR (W.alloc (.cells #[.string s] 80)) W.heap.size s.data.toList:=by
 unfold RdR
 rw[ba_list]
 exact Own.fresh W 80 #[.string s]
theorem Went.turn {W w:World}{b:Nat}{l:List UInt8}(h:Went W b l w):Turned b W w:=h.2
def RelPq (s:ByteArray) (W:World) (vo vq:Value) (wr:World):Prop :=
 ∃ (ok:Bool) (r:List UInt8) (acc:List Sgm) (ss:List SegV) (f:Nat) (V:Value),V=vq∧vo=.bool ok∧RdR wr W.heap.size r∧Below W.heap.size W wr∧(ok=false→queQ s.data.toList=none) ∧
   (ok=true→badU r = -1∧queR f r acc=queQ s.data.toList∧r.length<f∧acc.length+r.length≤s.size ∧
     GRow sgmK wr (W.heap.size+1) vq ss∧ss.length=acc.length ∧ ∀ (i:Nat) (x:SegV) (y:Sgm),ss[i]?=some x→acc[i]?=some y→x.deep=y.deep∧GRow selK wr (W.heap.size+1) (.slice x.A x.n x.c) y.sels)
def okMu (b:Nat) (vo:Value) (wr:World):Nat:=match vo with
 | .bool true=>muR b wr+1
 | _=>0
theorem sgm_lt {l r:List UInt8} {x:Sgm} (hv:badU l = -1) (h:sgmP l=some (x,r)):r.length<l.length:=by
 rw[← sgmq_eq l hv] at h
 cases hq:sgmQ l with
 | none=>rw[hq] at h;cases h
 | some p =>
   rw[hq] at h
   obtain ⟨h1,h2⟩:=sgmQ_in hq
   injection h with h
   injection h with _ h3
   rw[← h3,List.length_drop]
   omega
theorem GRow.pastq {α:Type} {K:RowK α} {wr w2:World} {base b:Nat} {v:Value} {l:List α} (h:GRow K wr base v l) (hb:b<base) {o1:Obj} (ht:Turned b (wr.alloc o1) w2) (u0 u1:Value) (o:Obj) :
   GRow K (((w2.setCell ⟨wr.heap.size,0,none⟩ u0).setCell ⟨wr.heap.size,1,none⟩ u1).alloc o) base v l:=h.stay fun g hg=>by
 have hl:=h.low hg
 have hz:=ht.2.2.2.1
 have hz1:(wr.alloc o1).heap.size=wr.heap.size+1:=by simp
 rw[Below.heap_alloc _ o g (by simp[World.setCell];omega),Below.heap_setCell _ ⟨wr.heap.size,1,none⟩ u1 g (by show g≠wr.heap.size;omega),Below.heap_setCell _ ⟨wr.heap.size,0,none⟩ u0 g (by show g≠wr.heap.size;omega),ht.2.2.2.2 g (by omega) (by omega),Below.heap_alloc wr o1 g hl.2]
theorem GRow.fresh {α:Type} {K:RowK α} {w2:World} {n:Nat} {v:Value} {l:List α} (h:GRow K w2 (n+1) v l) (u0 u1:Value) (o:Obj):GRow K (((w2.setCell ⟨n,0,none⟩ u0).setCell ⟨n,1,none⟩ u1).alloc o) (n+1) v l:=h.stay fun g hg=>by
 have hl:=h.low hg
 rw[Below.heap_alloc _ o g (by simp[World.setCell];omega),Below.heap_setCell _ ⟨n,1,none⟩ u1 g (by show g≠n;omega),Below.heap_setCell _ ⟨n,0,none⟩ u0 g (by show g≠n;omega)]
theorem RdR.past {w:World}{b n:Nat}{r:List UInt8}(h:RdR w b r)(hn:b≠n)(u0 u1:Value)(o:Obj):RdR (((w.setCell ⟨n,0,none⟩ u0).setCell ⟨n,1,none⟩ u1).alloc o) b r:=Own.over (Own.past (Own.past h (p:=⟨n,0,none⟩) hn u0) (p:=⟨n,1,none⟩) hn u1) o
theorem below_pq {W wr w2:World} {o1:Obj} (hb:Below W.heap.size W wr) (hlt:W.heap.size<wr.heap.size) (ht:Turned W.heap.size (wr.alloc o1) w2) (u0 u1:Value) (o:Obj):Below W.heap.size W (((w2.setCell ⟨wr.heap.size,0,none⟩ u0).setCell ⟨wr.heap.size,1,none⟩ u1).alloc o):=by
 have h1:=(hb.alloc hb.size o1).trans (ht.below (Nat.le_refl _) (by simp;omega))
 have h2:=((h1.setCell (p:=⟨wr.heap.size,0,none⟩) (by show W.heap.size≤wr.heap.size;omega) u0).setCell (p:=⟨wr.heap.size,1,none⟩) (by show W.heap.size≤wr.heap.size;omega) u1)
 exact h2.alloc h2.size o
theorem parseq_bad (s:ByteArray) (W:World) (h9:s.size≤100000) (hbad:badU s.data.toList ≠ -1) :
   Calls Tryz.prog 15 #[.string s] W (QaEnd s.data.toList W):=by
 have HBad:=hid (fun w=>bad_any s w (by unfold maxLen;omega))
 have HR:=hid (RdR.start W s)
 have hn:queQ s.data.toList=none:=by rw[queQ_is,if_neg (fun h=>hbad h.1)]
 have HN:=hid hn
 have hge:=(runU_ge s.data.toList 0 0).1
 have hge : -1≤badU s.data.toList:=hge
 generalize badU s.data.toList=bu at *
 have gI:¬ bu<0:=by omega
 clear hn hge hbad
 go_enter Tryz.func15,Tryz.ntmps15
 go_wp2_with (first
   | (go_at_call 33;with_reducible refine (HBad.out _).mono ?_;rintro e w1 ⟨rfl,hb1⟩;have HB1:=hid ((below1 W (.cells #[.string s] 80)).trans (hb1.mono (by simp)));have HR1:=hid (Went.new HR.out hb1);clear hb1))
 have HREL0:=hid (show RelPq s W (.bool false) (.slice none 0 0) w1 from ⟨false,_,[],[],0,_,rfl,rfl,HR1.out.1,HB1.out,fun _=>HN.out,fun h=>by cases h⟩)
 go_loopw [5,6] (fun vo vq wr=>RelPq s W vo vq wr) (fun vo _ wr=>okMu W.heap.size vo wr)
 case atStart=>exact HREL0.out
 case round =>
   obtain ⟨ok,r,acc,ss,f,V,rfl,rfl,hrd,hb,hno,hyes⟩:=hrel
   cases ok with
   | false =>
     have HP:=hid (hno rfl)
     have HB:=hid hb
     clear hno hyes hb hrd
     go_wp2
     go_ret2
     exact QaEnd.no HP.out HB.out
   | true =>
     obtain ⟨hv,hgo,hf,hal,q1,q2,q3⟩:=hyes rfl
     clear hno hyes
     obtain ⟨f,rfl⟩:∃ g,f=g+1:=⟨f-1,by omega⟩
     have hin:=hrd.inside
     have c0:=hrd.at0
     cases r with
     | nil =>
       have HG:=hid (show queQ s.data.toList=some acc from hgo.symm)
       have HQ:=hid (show QIs wr (W.heap.size+1) V acc from ⟨ss,q1,q2,q3⟩)
       have HB:=hid hb
       have HL:=hid (show acc.length≤s.data.toList.length by have:acc.length+0≤s.data.toList.length:=hal;omega)
       clear hgo hv hf hal q1 q2 q3 hb hrd
       go_wp2
       go_ret2
       exact QaEnd.yes HG.out HQ.out HL.out HB.out
     | cons ch t =>
       rw[queR_on,if_neg (by intro e;cases e)] at hgo
       have hE:=isEmpty_no (⟨(ch :: t).toArray⟩:ByteArray) (by show (ch :: t).length≠0;simp)
       have hz9:(ch :: t).isEmpty=false:=rfl
       generalize hrr:ch :: t=r at *
       clear hrr
       have hmu:=muR_is hrd
       have hr9:r.length≤1000000:=by omega
       have hrd1:RdR (wr.alloc (.cells #[.bool false,.slice none 0 0] 40)) W.heap.size r:=Own.over hrd _
       have HSM:=hid (segment_any W.heap.size r _ hrd1 hr9)
       have HB:=hid hb
       have HIN:=hid hin
       have hss:ss.length≤1000000:=by omega
       have HLOW:=hid (fun g' hg'=>(q1.low (g:=g') hg').1)
       have Q1:=hid q1
       have Q2:=hid q2
       have Q3:=hid q3
       have HO:=hid (Own.fresh wr 40 #[.bool false,.slice none 0 0])
       have HMU:=hid hmu
       have HRS:=hid (show ∀ (o:Bool) (x:Sgm) (r':List UInt8) (w:World) (vq:Value) (ss':List SegV),RdR w W.heap.size r'→Below W.heap.size W w→(match sgmP (skB r) with|none=>o=false|some (x',r'')=>o=true∧x'=x∧r'=r'') →
           (QIs w (W.heap.size+1) vq (acc++[x]))→RelPq s W (.bool o) vq w∧okMu W.heap.size (.bool o) w<okMu W.heap.size (.bool true) wr from by
         intro o x r' w vq ss' hrdw hbw hm hq
         cases hx:sgmP (skB r) with
         | none =>
           rw[hx] at hm hgo
           obtain rfl:o=false:=hm
           exact ⟨⟨false,r',[],[],0,vq,rfl,rfl,hrdw,hbw,fun _=>hgo.symm,fun h=>by cases h⟩,Nat.succ_pos _⟩
         | some p =>
           obtain ⟨x',r''⟩:=p
           rw[hx] at hm hgo
           obtain ⟨rfl,rfl,rfl⟩:=hm
           have hlt:=sgm_lt (bad_skB _ hv) hx
           have hsk:=skB_le r
           obtain ⟨ss1,p1,p2,p3⟩:=hq
           refine ⟨⟨true,r',_,ss1,f,vq,rfl,rfl,hrdw,hbw,(fun h=>by cases h),fun _=>⟨sgm_bad (bad_skB _ hv) hx,hgo,by omega,by rw[List.length_append];show acc.length+1+_≤_;omega,p1,p2,p3⟩⟩,?_⟩
           show muR _ w+1<muR _ wr+1
           rw[muR_is hrdw,HMU.out]
           omega)
       clear hgo hv hf hal q1 q2 q3 hb hrd hmu hrd1
       go_wp2_with (first
         | (go_at_call 35
            go_must (
              refine HSM.out.mono ?_
              rintro e w2 ⟨d,A,c,ok,xs,r',rfl,hw2,hr2,hl2,hm2⟩
              have ho:=Own.turned HO.out hw2.2 (by have:=HIN.out;omega)
              have a0:w2.cell? ⟨wr.heap.size,0,none⟩=some (.bool false):=ho.at 0
              have a1:w2.cell? ⟨wr.heap.size,1,none⟩=some (.slice none 0 0):=ho.at 1
              have g0:=ho.free 0
              have g1:=ho.free 1
              have hp:Own ((w2.setCell ⟨wr.heap.size,0,none⟩ (.bool d)).setCell ⟨wr.heap.size,1,none⟩ (.slice A xs.length c)) wr.heap.size 40 #[.bool d,.slice A xs.length c]:=by simpa using (ho.put 0 (.bool d)).put 1 (.slice A xs.length c)
              have z0:=hp.at 0
              have z1:=hp.at 1
              simp at z0 z1
              have hz1:(wr.alloc (.cells #[.bool false,.slice none 0 0] 40)).heap.size=wr.heap.size+1:=by simp
              rw[hz1] at hr2
              have HBW:=hid (fun o=>below_pq HB.out HIN.out hw2.2 (.bool d) (.slice A xs.length c) o)
              have HRW:=hid (fun o=>hw2.1.past (n:=wr.heap.size) (by have:=HIN.out;omega) (.bool d) (.slice A xs.length c) o)
              have HQ1:=hid (fun o=>Q1.out.pastq (Nat.lt_succ_self _) hw2.2 (.bool d) (.slice A xs.length c) o)
              have HQ3:=hid (fun o i x y hx hy=>And.intro (Q3.out i x y hx hy).1 ((Q3.out i x y hx hy).2.pastq (Nat.lt_succ_self _) hw2.2 (.bool d) (.slice A xs.length c) o))
              have HRX:=hid (fun o=>(hr2.fresh (.bool d) (.slice A xs.length c) o).mono (show W.heap.size+1≤wr.heap.size+1 by have:=HIN.out;omega))
              have hnew:=new_seg ((w2.setCell ⟨wr.heap.size,0,none⟩ (.bool d)).setCell ⟨wr.heap.size,1,none⟩ (.slice A xs.length c)) d A xs.length c
              have hz2:((w2.setCell ⟨wr.heap.size,0,none⟩ (.bool d)).setCell ⟨wr.heap.size,1,none⟩ (.slice A xs.length c)).heap.size=w2.heap.size:=by simp[World.setCell]
              rw[hz2] at hnew
              have HNEW:=hid hnew
              have HSZ:=hid (show ∀ o,W.heap.size+1≤(((w2.setCell ⟨wr.heap.size,0,none⟩ (.bool d)).setCell ⟨wr.heap.size,1,none⟩ (.slice A xs.length c)).alloc o).heap.size from fun o=>by have h1:=HIN.out;have h2:=hw2.2.2.2.2.1;rw[hz1] at h2;simp[World.setCell];omega)
              have HM2:=hid hm2
              clear ho hp hw2 hr2 hnew hz1 hz2 hm2))
         | (at_builtin
            go_must (
              refine row_append (K:=sgmK) _ rfl (.tmp 26) (.tmp 28) rfl (W.heap.size+1) _ ss rfl (HQ1.out _) _ 1 1 [⟨d,A,xs.length,c⟩] rfl HNEW.out (by omega) (HSZ.out _) ?_
              intro v4 w4 row4 grown4 at4
              have hb4:=below_grown (HBW.out _) grown4 (HBW.out _).size (fun g hg=>Nat.le_of_succ_le (HLOW.out g hg))
              have hq4:QIs w4 (W.heap.size+1) v4 (acc++[⟨d,xs⟩]):=QIs.snoc (x:=⟨d,xs⟩) (HQ1.out _) Q2.out (fun i s y hs hy=>HQ3.out _ i s y hs hy) (HRX.out _) row4 grown4 (HSZ.out _)
              have hrd4:RdR w4 W.heap.size r':=(grown4.block W.heap.size (by have:=HSZ.out;exact Nat.lt_of_succ_le (HSZ.out _)) (fun e=>by have:=HLOW.out _ e.symm;omega)).trans (HRW.out _)
              have HFIN:=hid (HRS.out ok ⟨d,xs⟩ r' w4 v4 ss hrd4 hb4 (by have hm:=HM2.out;revert hm;cases sgmP (skB r) with|none=>exact id|some p=>exact fun hm=>⟨hm.1,hm.2.1,hm.2.2⟩) hq4)
              clear hb4 hq4 hrd4 row4 grown4 at4)))
       go_roundw
       case rel=>exact HFIN.out.1
       case measure=>exact HFIN.out.2
theorem parseq_no (s:ByteArray) (W:World) (h9:s.size≤100000) (hbad:badU s.data.toList = -1) (h36:s.data.toList.head?≠some 36) :
   Calls Tryz.prog 15 #[.string s] W (QaEnd s.data.toList W):=by
 have HBad:=hid (fun w=>bad_any s w (by unfold maxLen;omega))
 have HR:=hid (RdR.start W s)
 rw[hbad] at HBad
 have hn:queQ s.data.toList=none:=by rw[queQ_is,if_neg (fun h=>h36 h.2)]
 have HN:=hid hn
 clear hn
 go_enter Tryz.func15,Tryz.ntmps15
 go_wp2_with (first
   | (go_at_call 33;with_reducible refine (HBad.out _).mono ?_;rintro e w1 ⟨rfl,hb1⟩;have HB1:=hid ((below1 W (.cells #[.string s] 80)).trans (hb1.mono (by simp)));have HR1:=hid (Went.new HR.out hb1);clear hb1)
   | (go_at_call 34;go_must (with_reducible refine (Went.no HR1.out h36).mono ?_;rintro e w2 ⟨rfl,t2,i2⟩;have HB2:=hid (HB1.out.trans ((Went.turn t2).below (Nat.le_refl _) HB1.out.size));have HR2:=hid i2;clear t2 i2)))
 have HREL0:=hid (show RelPq s W (.bool false) (.slice none 0 0) w2 from ⟨false,_,[],[],0,_,rfl,rfl,HR2.out.1,HB2.out,fun _=>HN.out,fun h=>by cases h⟩)
 go_loopw [5,6] (fun vo vq wr=>RelPq s W vo vq wr) (fun vo _ wr=>okMu W.heap.size vo wr)
 case atStart=>exact HREL0.out
 case round =>
   obtain ⟨ok,r,acc,ss,f,V,rfl,rfl,hrd,hb,hno,hyes⟩:=hrel
   cases ok with
   | false =>
     have HP:=hid (hno rfl)
     have HB:=hid hb
     clear hno hyes hb hrd
     go_wp2
     go_ret2
     exact QaEnd.no HP.out HB.out
   | true =>
     obtain ⟨hv,hgo,hf,hal,q1,q2,q3⟩:=hyes rfl
     clear hno hyes
     obtain ⟨f,rfl⟩:∃ g,f=g+1:=⟨f-1,by omega⟩
     have hin:=hrd.inside
     have c0:=hrd.at0
     cases r with
     | nil =>
       have HG:=hid (show queQ s.data.toList=some acc from hgo.symm)
       have HQ:=hid (show QIs wr (W.heap.size+1) V acc from ⟨ss,q1,q2,q3⟩)
       have HB:=hid hb
       have HL:=hid (show acc.length≤s.data.toList.length by have:acc.length+0≤s.data.toList.length:=hal;omega)
       clear hgo hv hf hal q1 q2 q3 hb hrd
       go_wp2
       go_ret2
       exact QaEnd.yes HG.out HQ.out HL.out HB.out
     | cons ch t =>
       rw[queR_on,if_neg (by intro e;cases e)] at hgo
       have hE:=isEmpty_no (⟨(ch :: t).toArray⟩:ByteArray) (by show (ch :: t).length≠0;simp)
       have hz9:(ch :: t).isEmpty=false:=rfl
       generalize hrr:ch :: t=r at *
       clear hrr
       have hmu:=muR_is hrd
       have hr9:r.length≤1000000:=by omega
       have hrd1:RdR (wr.alloc (.cells #[.bool false,.slice none 0 0] 40)) W.heap.size r:=Own.over hrd _
       have HSM:=hid (segment_any W.heap.size r _ hrd1 hr9)
       have HB:=hid hb
       have HIN:=hid hin
       have hss:ss.length≤1000000:=by omega
       have HLOW:=hid (fun g' hg'=>(q1.low (g:=g') hg').1)
       have Q1:=hid q1
       have Q2:=hid q2
       have Q3:=hid q3
       have HO:=hid (Own.fresh wr 40 #[.bool false,.slice none 0 0])
       have HMU:=hid hmu
       have HRS:=hid (show ∀ (o:Bool) (x:Sgm) (r':List UInt8) (w:World) (vq:Value) (ss':List SegV),RdR w W.heap.size r'→Below W.heap.size W w→(match sgmP (skB r) with|none=>o=false|some (x',r'')=>o=true∧x'=x∧r'=r'') →
           (QIs w (W.heap.size+1) vq (acc++[x]))→RelPq s W (.bool o) vq w∧okMu W.heap.size (.bool o) w<okMu W.heap.size (.bool true) wr from by
         intro o x r' w vq ss' hrdw hbw hm hq
         cases hx:sgmP (skB r) with
         | none =>
           rw[hx] at hm hgo
           obtain rfl:o=false:=hm
           exact ⟨⟨false,r',[],[],0,vq,rfl,rfl,hrdw,hbw,fun _=>hgo.symm,fun h=>by cases h⟩,Nat.succ_pos _⟩
         | some p =>
           obtain ⟨x',r''⟩:=p
           rw[hx] at hm hgo
           obtain ⟨rfl,rfl,rfl⟩:=hm
           have hlt:=sgm_lt (bad_skB _ hv) hx
           have hsk:=skB_le r
           obtain ⟨ss1,p1,p2,p3⟩:=hq
           refine ⟨⟨true,r',_,ss1,f,vq,rfl,rfl,hrdw,hbw,(fun h=>by cases h),fun _=>⟨sgm_bad (bad_skB _ hv) hx,hgo,by omega,by rw[List.length_append];show acc.length+1+_≤_;omega,p1,p2,p3⟩⟩,?_⟩
           show muR _ w+1<muR _ wr+1
           rw[muR_is hrdw,HMU.out]
           omega)
       clear hgo hv hf hal q1 q2 q3 hb hrd hmu hrd1
       go_wp2_with (first
         | (go_at_call 35
            go_must (
              refine HSM.out.mono ?_
              rintro e w2 ⟨d,A,c,ok,xs,r',rfl,hw2,hr2,hl2,hm2⟩
              have ho:=Own.turned HO.out hw2.2 (by have:=HIN.out;omega)
              have a0:w2.cell? ⟨wr.heap.size,0,none⟩=some (.bool false):=ho.at 0
              have a1:w2.cell? ⟨wr.heap.size,1,none⟩=some (.slice none 0 0):=ho.at 1
              have g0:=ho.free 0
              have g1:=ho.free 1
              have hp:Own ((w2.setCell ⟨wr.heap.size,0,none⟩ (.bool d)).setCell ⟨wr.heap.size,1,none⟩ (.slice A xs.length c)) wr.heap.size 40 #[.bool d,.slice A xs.length c]:=by simpa using (ho.put 0 (.bool d)).put 1 (.slice A xs.length c)
              have z0:=hp.at 0
              have z1:=hp.at 1
              simp at z0 z1
              have hz1:(wr.alloc (.cells #[.bool false,.slice none 0 0] 40)).heap.size=wr.heap.size+1:=by simp
              rw[hz1] at hr2
              have HBW:=hid (fun o=>below_pq HB.out HIN.out hw2.2 (.bool d) (.slice A xs.length c) o)
              have HRW:=hid (fun o=>hw2.1.past (n:=wr.heap.size) (by have:=HIN.out;omega) (.bool d) (.slice A xs.length c) o)
              have HQ1:=hid (fun o=>Q1.out.pastq (Nat.lt_succ_self _) hw2.2 (.bool d) (.slice A xs.length c) o)
              have HQ3:=hid (fun o i x y hx hy=>And.intro (Q3.out i x y hx hy).1 ((Q3.out i x y hx hy).2.pastq (Nat.lt_succ_self _) hw2.2 (.bool d) (.slice A xs.length c) o))
              have HRX:=hid (fun o=>(hr2.fresh (.bool d) (.slice A xs.length c) o).mono (show W.heap.size+1≤wr.heap.size+1 by have:=HIN.out;omega))
              have hnew:=new_seg ((w2.setCell ⟨wr.heap.size,0,none⟩ (.bool d)).setCell ⟨wr.heap.size,1,none⟩ (.slice A xs.length c)) d A xs.length c
              have hz2:((w2.setCell ⟨wr.heap.size,0,none⟩ (.bool d)).setCell ⟨wr.heap.size,1,none⟩ (.slice A xs.length c)).heap.size=w2.heap.size:=by simp[World.setCell]
              rw[hz2] at hnew
              have HNEW:=hid hnew
              have HSZ:=hid (show ∀ o,W.heap.size+1≤(((w2.setCell ⟨wr.heap.size,0,none⟩ (.bool d)).setCell ⟨wr.heap.size,1,none⟩ (.slice A xs.length c)).alloc o).heap.size from fun o=>by have h1:=HIN.out;have h2:=hw2.2.2.2.2.1;rw[hz1] at h2;simp[World.setCell];omega)
              have HM2:=hid hm2
              clear ho hp hw2 hr2 hnew hz1 hz2 hm2))
         | (at_builtin
            go_must (
              refine row_append (K:=sgmK) _ rfl (.tmp 26) (.tmp 28) rfl (W.heap.size+1) _ ss rfl (HQ1.out _) _ 1 1 [⟨d,A,xs.length,c⟩] rfl HNEW.out (by omega) (HSZ.out _) ?_
              intro v4 w4 row4 grown4 at4
              have hb4:=below_grown (HBW.out _) grown4 (HBW.out _).size (fun g hg=>Nat.le_of_succ_le (HLOW.out g hg))
              have hq4:QIs w4 (W.heap.size+1) v4 (acc++[⟨d,xs⟩]):=QIs.snoc (x:=⟨d,xs⟩) (HQ1.out _) Q2.out (fun i s y hs hy=>HQ3.out _ i s y hs hy) (HRX.out _) row4 grown4 (HSZ.out _)
              have hrd4:RdR w4 W.heap.size r':=(grown4.block W.heap.size (by have:=HSZ.out;exact Nat.lt_of_succ_le (HSZ.out _)) (fun e=>by have:=HLOW.out _ e.symm;omega)).trans (HRW.out _)
              have HFIN:=hid (HRS.out ok ⟨d,xs⟩ r' w4 v4 ss hrd4 hb4 (by have hm:=HM2.out;revert hm;cases sgmP (skB r) with|none=>exact id|some p=>exact fun hm=>⟨hm.1,hm.2.1,hm.2.2⟩) hq4)
              clear hb4 hq4 hrd4 row4 grown4 at4)))
       go_roundw
       case rel=>exact HFIN.out.1
       case measure=>exact HFIN.out.2
theorem parseq_yes (s:ByteArray) (W:World) (h9:s.size≤100000) (hbad:badU s.data.toList = -1) (h36:s.data.toList.head?=some 36) :
   Calls Tryz.prog 15 #[.string s] W (QaEnd s.data.toList W):=by
 have HBad:=hid (fun w=>bad_any s w (by unfold maxLen;omega))
 have HR:=hid (RdR.start W s)
 rw[hbad] at HBad
 have HN:=hid (show queQ s.data.toList=queR (s.data.toList.length+1) s.data.toList.tail [] by rw[queQ_is,if_pos ⟨hbad,h36⟩])
 have HV:=hid (show badU s.data.toList.tail = -1 from tail_head hbad h36 (by decide))
 have HL:=hid (show s.data.toList.tail.length<s.data.toList.length+1∧([]:List Sgm).length+s.data.toList.tail.length≤s.size by rw[List.length_tail];have e:s.data.toList.length=s.size:=rfl;simp;omega)
 go_enter Tryz.func15,Tryz.ntmps15
 go_wp2_with (first
   | (go_at_call 33;with_reducible refine (HBad.out _).mono ?_;rintro e w1 ⟨rfl,hb1⟩;have HB1:=hid ((below1 W (.cells #[.string s] 80)).trans (hb1.mono (by simp)));have HR1:=hid (Went.new HR.out hb1);clear hb1)
   | (go_at_call 34;go_must (with_reducible refine (Went.yes HR1.out h36).mono ?_;rintro e w2 ⟨rfl,t2,i2⟩;have HB2:=hid (HB1.out.trans ((Went.turn t2).below (Nat.le_refl _) HB1.out.size));have HR2:=hid i2;clear t2 i2)))
 have HREL0:=hid (show RelPq s W (.bool true) (.slice none 0 0) w2 from ⟨true,_,[],[],_,_,rfl,rfl,HR2.out.1,HB2.out,(fun h=>by cases h),fun _=>⟨HV.out,HN.out.symm,HL.out.1,HL.out.2,GRow.nil _ _,rfl,fun i x y hx=>by simp at hx⟩⟩)
 go_loopw [5,6] (fun vo vq wr=>RelPq s W vo vq wr) (fun vo _ wr=>okMu W.heap.size vo wr)
 case atStart=>exact HREL0.out
 case round =>
   obtain ⟨ok,r,acc,ss,f,V,rfl,rfl,hrd,hb,hno,hyes⟩:=hrel
   cases ok with
   | false =>
     have HP:=hid (hno rfl)
     have HB:=hid hb
     clear hno hyes hb hrd
     go_wp2
     go_ret2
     exact QaEnd.no HP.out HB.out
   | true =>
     obtain ⟨hv,hgo,hf,hal,q1,q2,q3⟩:=hyes rfl
     clear hno hyes
     obtain ⟨f,rfl⟩:∃ g,f=g+1:=⟨f-1,by omega⟩
     have hin:=hrd.inside
     have c0:=hrd.at0
     cases r with
     | nil =>
       have HG:=hid (show queQ s.data.toList=some acc from hgo.symm)
       have HQ:=hid (show QIs wr (W.heap.size+1) V acc from ⟨ss,q1,q2,q3⟩)
       have HB:=hid hb
       have HL:=hid (show acc.length≤s.data.toList.length by have:acc.length+0≤s.data.toList.length:=hal;omega)
       clear hgo hv hf hal q1 q2 q3 hb hrd
       go_wp2
       go_ret2
       exact QaEnd.yes HG.out HQ.out HL.out HB.out
     | cons ch t =>
       rw[queR_on,if_neg (by intro e;cases e)] at hgo
       have hE:=isEmpty_no (⟨(ch :: t).toArray⟩:ByteArray) (by show (ch :: t).length≠0;simp)
       have hz9:(ch :: t).isEmpty=false:=rfl
       generalize hrr:ch :: t=r at *
       clear hrr
       have hmu:=muR_is hrd
       have hr9:r.length≤1000000:=by omega
       have hrd1:RdR (wr.alloc (.cells #[.bool false,.slice none 0 0] 40)) W.heap.size r:=Own.over hrd _
       have HSM:=hid (segment_any W.heap.size r _ hrd1 hr9)
       have HB:=hid hb
       have HIN:=hid hin
       have hss:ss.length≤1000000:=by omega
       have HLOW:=hid (fun g' hg'=>(q1.low (g:=g') hg').1)
       have Q1:=hid q1
       have Q2:=hid q2
       have Q3:=hid q3
       have HO:=hid (Own.fresh wr 40 #[.bool false,.slice none 0 0])
       have HMU:=hid hmu
       have HRS:=hid (show ∀ (o:Bool) (x:Sgm) (r':List UInt8) (w:World) (vq:Value) (ss':List SegV),RdR w W.heap.size r'→Below W.heap.size W w→(match sgmP (skB r) with|none=>o=false|some (x',r'')=>o=true∧x'=x∧r'=r'') →
           (QIs w (W.heap.size+1) vq (acc++[x]))→RelPq s W (.bool o) vq w∧okMu W.heap.size (.bool o) w<okMu W.heap.size (.bool true) wr from by
         intro o x r' w vq ss' hrdw hbw hm hq
         cases hx:sgmP (skB r) with
         | none =>
           rw[hx] at hm hgo
           obtain rfl:o=false:=hm
           exact ⟨⟨false,r',[],[],0,vq,rfl,rfl,hrdw,hbw,fun _=>hgo.symm,fun h=>by cases h⟩,Nat.succ_pos _⟩
         | some p =>
           obtain ⟨x',r''⟩:=p
           rw[hx] at hm hgo
           obtain ⟨rfl,rfl,rfl⟩:=hm
           have hlt:=sgm_lt (bad_skB _ hv) hx
           have hsk:=skB_le r
           obtain ⟨ss1,p1,p2,p3⟩:=hq
           refine ⟨⟨true,r',_,ss1,f,vq,rfl,rfl,hrdw,hbw,(fun h=>by cases h),fun _=>⟨sgm_bad (bad_skB _ hv) hx,hgo,by omega,by rw[List.length_append];show acc.length+1+_≤_;omega,p1,p2,p3⟩⟩,?_⟩
           show muR _ w+1<muR _ wr+1
           rw[muR_is hrdw,HMU.out]
           omega)
       clear hgo hv hf hal q1 q2 q3 hb hrd hmu hrd1
       go_wp2_with (first
         | (go_at_call 35
            go_must (
              refine HSM.out.mono ?_
              rintro e w2 ⟨d,A,c,ok,xs,r',rfl,hw2,hr2,hl2,hm2⟩
              have ho:=Own.turned HO.out hw2.2 (by have:=HIN.out;omega)
              have a0:w2.cell? ⟨wr.heap.size,0,none⟩=some (.bool false):=ho.at 0
              have a1:w2.cell? ⟨wr.heap.size,1,none⟩=some (.slice none 0 0):=ho.at 1
              have g0:=ho.free 0
              have g1:=ho.free 1
              have hp:Own ((w2.setCell ⟨wr.heap.size,0,none⟩ (.bool d)).setCell ⟨wr.heap.size,1,none⟩ (.slice A xs.length c)) wr.heap.size 40 #[.bool d,.slice A xs.length c]:=by simpa using (ho.put 0 (.bool d)).put 1 (.slice A xs.length c)
              have z0:=hp.at 0
              have z1:=hp.at 1
              simp at z0 z1
              have hz1:(wr.alloc (.cells #[.bool false,.slice none 0 0] 40)).heap.size=wr.heap.size+1:=by simp
              rw[hz1] at hr2
              have HBW:=hid (fun o=>below_pq HB.out HIN.out hw2.2 (.bool d) (.slice A xs.length c) o)
              have HRW:=hid (fun o=>hw2.1.past (n:=wr.heap.size) (by have:=HIN.out;omega) (.bool d) (.slice A xs.length c) o)
              have HQ1:=hid (fun o=>Q1.out.pastq (Nat.lt_succ_self _) hw2.2 (.bool d) (.slice A xs.length c) o)
              have HQ3:=hid (fun o i x y hx hy=>And.intro (Q3.out i x y hx hy).1 ((Q3.out i x y hx hy).2.pastq (Nat.lt_succ_self _) hw2.2 (.bool d) (.slice A xs.length c) o))
              have HRX:=hid (fun o=>(hr2.fresh (.bool d) (.slice A xs.length c) o).mono (show W.heap.size+1≤wr.heap.size+1 by have:=HIN.out;omega))
              have hnew:=new_seg ((w2.setCell ⟨wr.heap.size,0,none⟩ (.bool d)).setCell ⟨wr.heap.size,1,none⟩ (.slice A xs.length c)) d A xs.length c
              have hz2:((w2.setCell ⟨wr.heap.size,0,none⟩ (.bool d)).setCell ⟨wr.heap.size,1,none⟩ (.slice A xs.length c)).heap.size=w2.heap.size:=by simp[World.setCell]
              rw[hz2] at hnew
              have HNEW:=hid hnew
              have HSZ:=hid (show ∀ o,W.heap.size+1≤(((w2.setCell ⟨wr.heap.size,0,none⟩ (.bool d)).setCell ⟨wr.heap.size,1,none⟩ (.slice A xs.length c)).alloc o).heap.size from fun o=>by have h1:=HIN.out;have h2:=hw2.2.2.2.2.1;rw[hz1] at h2;simp[World.setCell];omega)
              have HM2:=hid hm2
              clear ho hp hw2 hr2 hnew hz1 hz2 hm2))
         | (at_builtin
            go_must (
              refine row_append (K:=sgmK) _ rfl (.tmp 26) (.tmp 28) rfl (W.heap.size+1) _ ss rfl (HQ1.out _) _ 1 1 [⟨d,A,xs.length,c⟩] rfl HNEW.out (by omega) (HSZ.out _) ?_
              intro v4 w4 row4 grown4 at4
              have hb4:=below_grown (HBW.out _) grown4 (HBW.out _).size (fun g hg=>Nat.le_of_succ_le (HLOW.out g hg))
              have hq4:QIs w4 (W.heap.size+1) v4 (acc++[⟨d,xs⟩]):=QIs.snoc (x:=⟨d,xs⟩) (HQ1.out _) Q2.out (fun i s y hs hy=>HQ3.out _ i s y hs hy) (HRX.out _) row4 grown4 (HSZ.out _)
              have hrd4:RdR w4 W.heap.size r':=(grown4.block W.heap.size (by have:=HSZ.out;exact Nat.lt_of_succ_le (HSZ.out _)) (fun e=>by have:=HLOW.out _ e.symm;omega)).trans (HRW.out _)
              have HFIN:=hid (HRS.out ok ⟨d,xs⟩ r' w4 v4 ss hrd4 hb4 (by have hm:=HM2.out;revert hm;cases sgmP (skB r) with|none=>exact id|some p=>exact fun hm=>⟨hm.1,hm.2.1,hm.2.2⟩) hq4)
              clear hb4 hq4 hrd4 row4 grown4 at4)))
       go_roundw
       case rel=>exact HFIN.out.1
       case measure=>exact HFIN.out.2
theorem parseq_any (s:ByteArray) (W:World) (h9:s.size≤100000) :
   Calls Tryz.prog 15 #[.string s] W (QaEnd s.data.toList W):=by
 by_cases hbad:badU s.data.toList = -1
 ·by_cases h36:s.data.toList.head?=some 36
  ·exact parseq_yes s W h9 hbad h36
  ·exact parseq_no s W h9 hbad h36
 ·exact parseq_bad s W h9 hbad
theorem queC:QueC (fun _=>True) where
 stay:=fun _ _ _ _=>trivial
 int:=fun s w _ hs=>intq_any s w (by omega)
 parse:=fun s w _ hs=>parseq_any s w hs
end
end Go.Proofs.YtnokhgfifbkflaaGreat
