/- Lemmas. -/
import Derived.Test.YtnokhgfifbkflaaGreatProg
import Derived.Test.YtnokhgfifbkflaaGreatJ28
set_option maxRecDepth 100000
set_option maxHeartbeats 8000000
set_option linter.unusedVariables false
set_option linter.unusedSimpArgs false
namespace Go.Proofs.YtnokhgfifbkflaaGreat
open Go.Lib (hid)
section
open Go.RowKit
theorem rplace_any (i m:Int) (w:World) (hi:midI i) (hm:midI m) :
   Calls Tryz.prog 77 #[.int .i64 i,.int .i64 m] w fun e w'=>e=.returned (.int .i64 (placeI i m))∧w'=w:=by
 obtain ⟨h1,h2⟩:=hi
 obtain ⟨h3,h4⟩:=hm
 by_cases h:0≤i
 ·have e:placeI i m=i:=by unfold placeI;rw[if_pos h]
  rw[e]
  go_enter Tryz.func77,Tryz.ntmps77
  go_wp2
  go_ret
  exact ⟨rfl,rfl⟩
 ·have e:placeI i m=m+i:=by unfold placeI;rw[if_neg h]
  rw[e]
  go_enter Tryz.func77,Tryz.ntmps77
  go_wp2
  go_ret
  exact ⟨rfl,rfl⟩
theorem rclip_any (n lo hi:Int) (w:World) :
   Calls Tryz.prog 101 #[.int .i64 n,.int .i64 lo,.int .i64 hi] w fun e w'=>e=.returned (.int .i64 (clipI n lo hi))∧w'=w:=by
 by_cases h1:n>hi
 ·by_cases h2:hi<lo
  ·have e:clipI n lo hi=lo:=by unfold clipI;rw[if_pos h1,if_pos h2]
   rw[e]
   go_enter Tryz.func101,Tryz.ntmps101
   go_wp2
   go_ret
   exact ⟨rfl,rfl⟩
  ·have e:clipI n lo hi=hi:=by unfold clipI;rw[if_pos h1,if_neg h2]
   rw[e]
   go_enter Tryz.func101,Tryz.ntmps101
   go_wp2
   go_ret
   exact ⟨rfl,rfl⟩
 ·by_cases h2:n<lo
  ·have e:clipI n lo hi=lo:=by unfold clipI;rw[if_neg h1,if_pos h2]
   rw[e]
   go_enter Tryz.func101,Tryz.ntmps101
   go_wp2
   go_ret
   exact ⟨rfl,rfl⟩
  ·have e:clipI n lo hi=n:=by unfold clipI;rw[if_neg h1,if_neg h2]
   rw[e]
   go_enter Tryz.func101,Tryz.ntmps101
   go_wp2
   go_ret
   exact ⟨rfl,rfl⟩
theorem rbounds_any (s:Sel) (m:Int) (w:World) (hs:RightI s) (h0:0≤m) (h9:m≤9007199254740992) :
   Calls Tryz.prog 78 #[.agg (selV s),.int .i64 m] w fun e w'=>e=.returned (.tuple #[.int .i64 (lowS s m),.int .i64 (highI s m)])∧Below w.heap.size w w':=by
 have HS:=hid (fun w=>rplace_any s.start m w hs.start.mid ⟨by omega,by omega⟩)
 have HE:=hid (fun w=>rplace_any s.en m w hs.en.mid ⟨by omega,by omega⟩)
 have HC:=hid (fun n lo hi w=>rclip_any n lo hi w)
 have t1:True:=trivial
 obtain ⟨kind,name,index,start,en,hs',he',stride⟩:=s
 have HL:=hid (show lowS ⟨kind,name,index,start,en,hs',he',stride⟩ m=(if stride=0 then 0 else if 0<stride then clipI (if hs' then placeI start m else 0) 0 m else clipI (if he' then placeI en m else -1) (-1) (m-1)) from rfl)
 have HH:=hid (show highI ⟨kind,name,index,start,en,hs',he',stride⟩ m=(if stride=0 then 0 else if 0<stride then clipI (if he' then placeI en m else m) 0 m else clipI (if hs' then placeI start m else m-1) (-1) (m-1)) from rfl)
 rw[HL.out,HH.out]
 clear HL HH hs
 by_cases h1:stride=0
 ·rw[if_pos h1,if_pos h1]
  subst h1
  unfold selV
  go_enter Tryz.func78,Tryz.ntmps78
  go_wp2
  go_ret2
  exact ⟨rfl,below1s _ _⟩
 have g1:(stride==0)=false:=beq_eq_false_iff_ne.2 h1
 rw[if_neg h1,if_neg h1]
 by_cases h2:0<stride
 ·rw [if_pos h2,if_pos h2]
  have h2g:stride>0:=h2
  unfold selV
  cases hs'<;>cases he'
  all_goals
    go_enter Tryz.func78,Tryz.ntmps78
    go_wp2_with (first
      | (go_at_call 77;clear t1;refine (HS.out _).mono ?_;rintro e w' ⟨rfl,rfl⟩)
      | (go_at_call 77;refine (HE.out _).mono ?_;rintro e w' ⟨rfl,rfl⟩)
      | (go_at_call 101;refine (HC.out _ _ _ _).mono ?_;rintro e w' ⟨rfl,rfl⟩))
    go_ret2
    exact ⟨rfl,below1s _ _⟩
 ·rw [if_neg h2,if_neg h2]
  have h2g:¬ stride>0:=h2
  unfold selV
  cases hs'<;>cases he'
  all_goals
    go_enter Tryz.func78,Tryz.ntmps78
    go_wp2_with (first
      | (go_at_call 77;clear t1;refine (HS.out _).mono ?_;rintro e w' ⟨rfl,rfl⟩)
      | (go_at_call 77;refine (HE.out _).mono ?_;rintro e w' ⟨rfl,rfl⟩)
      | (go_at_call 101;refine (HC.out _ _ _ _).mono ?_;rintro e w' ⟨rfl,rfl⟩))
    go_ret2
    exact ⟨rfl,below1s _ _⟩
end
section
open Go.RowKit
theorem rhas_any (s:Sel) (i m:Int) (w:World) (hs:RightI s) (h0:0≤m) (h9:m≤9007199254740992) :
   Calls Tryz.prog 50 #[.agg (selV s),.int .i64 i,.int .i64 m] w fun e w'=>e=.returned (.bool (hasS s i m))∧Below w.heap.size w w':=by
 by_cases hi0:i<0
 ·rw[has_out s i m (.inl hi0)]
  unfold selV
  go_enter Tryz.func50,Tryz.ntmps50
  go_wp2
  go_ret
  exact ⟨rfl,below1s _ _⟩
 by_cases him:m≤i
 ·rw[has_out s i m (.inr him)]
  unfold selV
  go_enter Tryz.func50,Tryz.ntmps50
  go_wp2
  go_ret
  exact ⟨rfl,below1s _ _⟩
 have g1:i<m:=by omega
 have g0:0≤i:=by omega
 by_cases hk:s.kind=2
 ·rw[has_index s i m g0 g1 hk]
  have HP:=hid (fun w=>rplace_any s.index m w hs.index.mid ⟨by omega,by omega⟩)
  unfold selV
  rw[hk]
  generalize placeI s.index m=x at *
  go_enter Tryz.func50,Tryz.ntmps50
  go_wp2_with (go_at_call 77;refine (HP.out _).mono ?_;rintro e w' ⟨rfl,rfl⟩)
  go_ret
  exact ⟨rfl,below1s _ _⟩
 have gk:(s.kind==2)=false:=beq_eq_false_iff_ne.2 hk
 by_cases hk3:s.kind≠3
 ·rw[has_none s i m g0 g1 hk (.inl hk3)]
  have gk3:(s.kind != 3)=true:=bne_iff_ne.2 hk3
  unfold selV
  clear hs hk hk3
  generalize s.kind=kd at *
  go_enter Tryz.func50,Tryz.ntmps50
  go_wp2
  go_ret
  exact ⟨rfl,below1s _ _⟩
 have hk3:s.kind=3:=Decidable.not_not.1 hk3
 by_cases hst:s.stride=0
 ·rw[has_none s i m g0 g1 hk (.inr hst)]
  unfold selV
  rw[hk3,hst]
  go_enter Tryz.func50,Tryz.ntmps50
  go_wp2
  go_ret
  exact ⟨rfl,below1s _ _⟩
 have gst:(s.stride==0)=false:=beq_eq_false_iff_ne.2 hst
 have HB:=hid (fun w=>rbounds_any s m w hs h0 h9)
 have hb:=bounds_in s m h0
 have hsb:=hs.stride
 unfold okI at hsb
 by_cases hp:0<s.stride
 ·rw [has_up s i m g0 g1 hk3 hp]
  have hp2:s.stride>0:=hp
  have hb1:=hb.2.2.2.2.1 hp
  unfold selV at *
  rw[hk3] at *
  clear hs hk hk3 gk
  generalize lowS s m=lo at *
  generalize highI s m=hi at *
  generalize hst2:s.stride=st at *
  have hm0:0≤(i-lo)%st∨True:=.inr trivial
  have hne:st≠0:=by omega
  by_cases q1:lo≤i
  ·have q1':i≥lo:=q1
   by_cases q2:i<hi
   ·have HD:=hid (show decide (lo≤i∧i<hi∧(i-lo)%st=0)=((i-lo)%st==0) by
      by_cases h:(i-lo)%st=0
      ·simp[h,q1,q2]
      ·simp[h])
    rw[HD.out]
    have hd0:0≤i-lo:=by omega
    go_enter Tryz.func50,Tryz.ntmps50
    go_wp2_with (go_at_call 78;refine (HB.out _).mono ?_;rintro e w2 ⟨rfl,hb2⟩;have ho:=(Own.fresh w 42 #[.int .i64 3,.string s.name,.int .i64 s.index,.int .i64 s.start,.int .i64 s.en,.bool s.hs,.bool s.he,.int .i64 st]).stay hb2 (by simp);have c7:=ho.at 7;simp at c7;clear ho)
    go_ret
    exact ⟨rfl,(below1s _ _).trans (hb2.mono (by simp))⟩
   ·have HD:=hid (show decide (lo≤i∧i<hi∧(i-lo)%st=0)=false from decide_eq_false (fun h=>q2 h.2.1))
    rw[HD.out]
    go_enter Tryz.func50,Tryz.ntmps50
    go_wp2_with (go_at_call 78;refine (HB.out _).mono ?_;rintro e w2 ⟨rfl,hb2⟩;have ho:=(Own.fresh w 42 #[.int .i64 3,.string s.name,.int .i64 s.index,.int .i64 s.start,.int .i64 s.en,.bool s.hs,.bool s.he,.int .i64 st]).stay hb2 (by simp);have c7:=ho.at 7;simp at c7;clear ho)
    go_ret
    exact ⟨rfl,(below1s _ _).trans (hb2.mono (by simp))⟩
  ·have q1':¬ i≥lo:=q1
   have HD:=hid (show decide (lo≤i∧i<hi∧(i-lo)%st=0)=false from decide_eq_false (fun h=>q1 h.1))
   rw[HD.out]
   go_enter Tryz.func50,Tryz.ntmps50
   go_wp2_with (go_at_call 78;refine (HB.out _).mono ?_;rintro e w2 ⟨rfl,hb2⟩;have ho:=(Own.fresh w 42 #[.int .i64 3,.string s.name,.int .i64 s.index,.int .i64 s.start,.int .i64 s.en,.bool s.hs,.bool s.he,.int .i64 st]).stay hb2 (by simp);have c7:=ho.at 7;simp at c7;clear ho)
   go_ret
   exact ⟨rfl,(below1s _ _).trans (hb2.mono (by simp))⟩
 ·have hn:s.stride<0:=by omega
  rw[has_down s i m g0 g1 hk3 hn]
  have hp2:¬ s.stride>0:=hp
  have hb1:=hb.2.2.2.2.2 hn
  unfold selV at *
  rw[hk3] at *
  clear hs hk hk3 gk
  generalize lowS s m=lo at *
  generalize highI s m=hi at *
  generalize hst2:s.stride=st at *
  have hne:0-st≠0:=by omega
  by_cases q1:lo<i
  ·have q1':i>lo:=q1
   by_cases q2:i≤hi
   ·have HD:=hid (show decide (lo<i∧i≤hi∧(hi-i)%(0-st)=0)=((hi-i)%(0-st)==0) by
      rw[Bool.eq_iff_iff,decide_eq_true_eq,beq_iff_eq]
      exact ⟨fun h=>h.2.2,fun h=>⟨q1,q2,h⟩⟩)
    rw[HD.out]
    have hd0:0≤hi-i:=by omega
    have hd1:0<0-st:=by omega
    go_enter Tryz.func50,Tryz.ntmps50
    go_wp2_with (go_at_call 78;refine (HB.out _).mono ?_;rintro e w2 ⟨rfl,hb2⟩;have ho:=(Own.fresh w 42 #[.int .i64 3,.string s.name,.int .i64 s.index,.int .i64 s.start,.int .i64 s.en,.bool s.hs,.bool s.he,.int .i64 st]).stay hb2 (by simp);have c7:=ho.at 7;simp at c7;clear ho)
    go_ret
    exact ⟨ret_b (by simp),(below1s _ _).trans (hb2.mono (by simp))⟩
   ·have HD:=hid (show decide (lo<i∧i≤hi∧(hi-i)%(0-st)=0)=false from decide_eq_false (fun h=>q2 h.2.1))
    rw[HD.out]
    go_enter Tryz.func50,Tryz.ntmps50
    go_wp2_with (go_at_call 78;refine (HB.out _).mono ?_;rintro e w2 ⟨rfl,hb2⟩;have ho:=(Own.fresh w 42 #[.int .i64 3,.string s.name,.int .i64 s.index,.int .i64 s.start,.int .i64 s.en,.bool s.hs,.bool s.he,.int .i64 st]).stay hb2 (by simp);have c7:=ho.at 7;simp at c7;clear ho)
    go_ret
    exact ⟨rfl,(below1s _ _).trans (hb2.mono (by simp))⟩
  ·have q1':¬ i>lo:=q1
   have HD:=hid (show decide (lo<i∧i≤hi∧(hi-i)%(0-st)=0)=false from decide_eq_false (fun h=>q1 h.1))
   rw[HD.out]
   go_enter Tryz.func50,Tryz.ntmps50
   go_wp2_with (go_at_call 78;refine (HB.out _).mono ?_;rintro e w2 ⟨rfl,hb2⟩;have ho:=(Own.fresh w 42 #[.int .i64 3,.string s.name,.int .i64 s.index,.int .i64 s.start,.int .i64 s.en,.bool s.hs,.bool s.he,.int .i64 st]).stay hb2 (by simp);have c7:=ho.at 7;simp at c7;clear ho)
   go_ret
   exact ⟨rfl,(below1s _ _).trans (hb2.mono (by simp))⟩
end
section
open Go.RowKit
theorem rmeets_any (v:Tree) (x:V6) (i:Nat) (s:Sel) (W:World) (hv:VIs W v x) (h5:v.kd=5→i<v.names.length) (hi9:i≤1000000) (hs:RightI s) (h9:v.items.length≤9007199254740992) :
   Calls Tryz.prog 31 #[.agg #[.int .i64 x.kd,.int .i64 x.fr,.int .i64 x.to,.string ⟨x.tx.toArray⟩,.slice x.A x.n x.c,.slice x.B x.m x.d],.int .i64 i,.agg (selV s)] W
     fun e w'=>e=.returned (.bool (hitT v i s))∧Below W.heap.size W w':=by
 obtain ⟨kd,fr,td,tx,items,names⟩:=v
 have hm:=hv.many
 have hk:x.kd=kd:=by unfold VIs at hv;exact hv.1
 have hcap:x.n≤x.c:=by unfold VIs at hv;exact hv.2.2.2.2.1
 have hcap2:x.m≤x.d:=by unfold VIs at hv;exact hv.2.2.2.2.2.1
 have h7:RdG namK W x.B x.m names:=by unfold VIs at hv;exact hv.2.2.2.2.2.2.1
 obtain ⟨xk,xf,xt,xx,xA,n,xc,xB,m,xd⟩:=x
 obtain ⟨hmn,hmm⟩:=hm
 replace hmn:n=items.length:=hmn
 replace hmm:m=names.length:=hmm
 replace hk:xk=kd:=hk
 subst hk
 replace hcap:n≤xc:=hcap
 replace hcap2:m≤xd:=hcap2
 replace h7:RdG namK W xB m names:=h7
 replace h9:items.length≤9007199254740992:=h9
 replace h5:xk=5→i<names.length:=h5
 have HH:=hid (fun w=>rhas_any s i n w hs (by omega) (by omega))
 clear hv
 show Calls _ _ #[.agg #[.int .i64 xk,.int .i64 xf,.int .i64 xt,.string ⟨xx.toArray⟩,.slice xA n xc,.slice xB m xd],.int .i64 i,.agg (selV s)] W _
 have hit:hitT (.mk xk fr td tx items names) i s=if xk=5 then decide (s.kind=1)||(decide (s.kind=0)&&decide (names.getD i []=s.name.data.toList)) else decide (xk=4)&&(decide (s.kind=1)||hasS s i items.length):=rfl
 rw[hit,← hmn]
 clear hit
 unfold selV at HH ⊢
 by_cases k5:xk=5
 ·subst k5
  have hi:=h5 rfl
  rw[if_pos rfl]
  by_cases k1:s.kind=1
  ·rw[k1]
   clear HH h7 h5 hs hmn hmm
   go_enter Tryz.func31,Tryz.ntmps31
   go_wp2
   go_quiet (fail)
   go_wp2
   go_ret
   exact ⟨rfl,below_drewN ((below1s _ _).trans ((below1s _ _).mono (below1s _ _).size)) _⟩
  have g1:(s.kind==1)=false:=beq_eq_false_iff_ne.2 k1
  rw[decide_eq_false k1]
  by_cases k0:s.kind=0
  ·obtain ⟨nb,no,rfl,hnb,hc⟩:=nam_cell h7 hi
   rw[k0]
   have hq:=name_beq (names.getD i []) s.name
   rw[show (false||(decide ((0:Int)=0)&&decide (names.getD i []=s.name.data.toList)))=decide (names.getD i []=s.name.data.toList) from rfl,← hq]
   clear hq
   generalize (⟨(names.getD i []).toArray⟩:ByteArray)=nm at *
   have hiI:(i:Int)<m:=by omega
   have b2:=(below1s W (.cells #[.int .i64 5,.int .i64 xf,.int .i64 xt,.string ⟨xx.toArray⟩,.slice xA n xc,.slice (some ⟨nb,no,none⟩) m xd] 29)).trans ((below1s (W.alloc (.cells #[.int .i64 5,.int .i64 xf,.int .i64 xt,.string ⟨xx.toArray⟩,.slice xA n xc,.slice (some ⟨nb,no,none⟩) m xd] 29)) (.cells #[.int .i64 0,.string s.name,.int .i64 s.index,.int .i64 s.start,.int .i64 s.en,.bool s.hs,.bool s.he,.int .i64 s.stride] 42)).mono (below1s _ _).size)
   have hc2:=(b2.cell (p:=⟨nb,no+i,none⟩) hnb).trans hc
   have hz:=(below1s W (.cells #[.int .i64 5,.int .i64 xf,.int .i64 xt,.string ⟨xx.toArray⟩,.slice xA n xc,.slice (some ⟨nb,no,none⟩) m xd] 29))
   clear HH h7 h5 hs hmn hmm
   go_enter Tryz.func31,Tryz.ntmps31
   go_wp2
   go_quiet (fail)
   go_wp2
   go_ret
   exact ⟨rfl,below_drewN b2 _⟩
  have g0:(s.kind==0)=false:=beq_eq_false_iff_ne.2 k0
  rw[decide_eq_false k0]
  clear HH h7 h5 hs hmn hmm
  generalize s.kind=sk at *
  go_enter Tryz.func31,Tryz.ntmps31
  go_wp2
  go_quiet (fail)
  go_wp2
  go_ret
  exact ⟨rfl,below_drewN ((below1s _ _).trans ((below1s _ _).mono (below1s _ _).size)) _⟩
 have g5:(xk==5)=false:=beq_eq_false_iff_ne.2 k5
 rw[if_neg k5]
 by_cases k4:xk=4
 ·subst k4
  by_cases k1:s.kind=1
  ·rw[k1]
   clear HH h7 h5 hs hmn hmm
   go_enter Tryz.func31,Tryz.ntmps31
   go_wp2
   go_ret
   exact ⟨rfl,(below1s _ _).trans ((below1s _ _).mono (below1s _ _).size)⟩
  have g1:(s.kind==1)=false:=beq_eq_false_iff_ne.2 k1
  rw[decide_eq_false k1]
  have HB:=hid ((below1s W (.cells #[.int .i64 4,.int .i64 xf,.int .i64 xt,.string ⟨xx.toArray⟩,.slice xA n xc,.slice xB m xd] 29)).trans ((below1s (W.alloc (.cells #[.int .i64 4,.int .i64 xf,.int .i64 xt,.string ⟨xx.toArray⟩,.slice xA n xc,.slice xB m xd] 29)) (.cells #[.int .i64 s.kind,.string s.name,.int .i64 s.index,.int .i64 s.start,.int .i64 s.en,.bool s.hs,.bool s.he,.int .i64 s.stride] 42)).mono (below1s _ _).size))
  rw[show (decide ((4:Int)=4)&&(false||hasS s i n))=hasS s i n by simp]
  generalize hasS s i n=hb at *
  clear h7 h5 hs hmn hmm
  generalize s.kind=sk at *
  go_enter Tryz.func31,Tryz.ntmps31
  go_wp2_with (
    (go_at_call 50
     go_must (
       refine (HH.out _).mono ?_
       rintro e w1 ⟨rfl,hb1⟩
       have HB1:=hid (HB.out.trans (hb1.mono HB.out.size))
       clear hb1)))
  go_ret
  exact ⟨rfl,HB1.out⟩
 have g4:(xk==4)=false:=beq_eq_false_iff_ne.2 k4
 rw[decide_eq_false k4]
 clear HH h7 h5 hs hmn hmm
 go_enter Tryz.func31,Tryz.ntmps31
 go_wp2
 go_ret
 exact ⟨rfl,(below1s _ _).trans ((below1s _ _).mono (below1s _ _).size)⟩
end
section
open Go.RowKit
theorem rstep16_any (v:Tree) (x:V6) (i:Nat) (W:World) (hv:VIs W v x) (h5:v.kd=5→i<v.names.length) (hi9:i≤1000000) :
   Calls Tryz.prog 73 #[.agg #[.int .i64 x.kd,.int .i64 x.fr,.int .i64 x.to,.string ⟨x.tx.toArray⟩,.slice x.A x.n x.c,.slice x.B x.m x.d],.int .i64 i] W
     fun e w'=>e=.returned (.agg #[.bool (stpT v i).named,.string ⟨(stpT v i).name.toArray⟩,.int .i64 (stpT v i).index])∧Below W.heap.size W w':=by
 obtain ⟨kd,fr,td,tx,items,names⟩:=v
 have hm:=hv.many
 have hk:x.kd=kd:=by unfold VIs at hv;exact hv.1
 have h7:RdG namK W x.B x.m names:=by unfold VIs at hv;exact hv.2.2.2.2.2.2.1
 have hmm:x.m=names.length:=hm.2
 obtain ⟨xk,xf,xt,xx,xA,n,xc,xB,m,xd⟩:=x
 replace hk:xk=kd:=hk
 replace h7:RdG namK W xB m names:=h7
 replace hmm:m=names.length:=hmm
 subst hk
 replace h5:xk=5→i<names.length:=h5
 clear hv hm
 have hst:stpT (.mk xk fr td tx items names) i=if xk=5 then ⟨true,names.getD i [],0⟩ else ⟨false,[],i⟩:=rfl
 rw[hst]
 clear hst
 show Calls _ _ #[.agg #[.int .i64 xk,.int .i64 xf,.int .i64 xt,.string ⟨xx.toArray⟩,.slice xA n xc,.slice xB m xd],.int .i64 i] W _
 generalize (⟨xx.toArray⟩:ByteArray)=xs at *
 have z1:(W.alloc (.cells #[.int .i64 xk,.int .i64 xf,.int .i64 xt,.string xs,.slice xA n xc,.slice xB m xd] 29)).heap.size=W.heap.size+1:=by simp
 have HB2:=hid (fun o=>(below1s W (.cells #[.int .i64 xk,.int .i64 xf,.int .i64 xt,.string xs,.slice xA n xc,.slice xB m xd] 29)).alloc (show W.heap.size≤_ by omega) o)
 by_cases k5:xk=5
 ·subst k5
  have hi:=h5 rfl
  obtain ⟨nb,no,rfl,hnb,hc⟩:=nam_cell h7 hi
  have hiI:(i:Int)<m:=by omega
  have hc2:=fun o=>((HB2.out o).cell (p:=⟨nb,no+i,none⟩) hnb).trans hc
  have hc3:=hc2 (.cells #[.bool false,.string ⟨#[]⟩,.int .i64 0] 86)
  rw[if_pos rfl]
  have HO:=hid (by have:=Own.fresh (W.alloc (.cells #[.int .i64 5,.int .i64 xf,.int .i64 xt,.string xs,.slice xA n xc,.slice (some ⟨nb,no,none⟩) m xd] 29)) 86 #[.bool true,.string ⟨(names.getD i []).toArray⟩,.int .i64 0];rw[z1] at this;exact this)
  show Calls _ _ _ W fun e w'=>e=.returned (.agg #[.bool true,.string ⟨(names.getD i []).toArray⟩,.int .i64 0])∧_
  generalize (⟨(names.getD i []).toArray⟩:ByteArray)=nm at *
  clear hc2 h7 h5 hmm
  go_enter Tryz.func73,Tryz.ntmps73
  go_wp2
  refine bodyPost_ret (results_cell_row rfl _ _ (W.heap.size+1) _ _ (0,0) _ rfl HO.out Tryz.underlying86 rfl step_size16) rfl ?_
  exact ⟨rfl,HB2.out _⟩
 ·have g5:(xk==5)=false:=beq_eq_false_iff_ne.2 k5
  rw[if_neg k5]
  have HO:=hid (by have:=Own.fresh (W.alloc (.cells #[.int .i64 xk,.int .i64 xf,.int .i64 xt,.string xs,.slice xA n xc,.slice xB m xd] 29)) 86 #[.bool false,.string ⟨#[]⟩,.int .i64 i];rw[z1] at this;exact this)
  show Calls _ _ _ W fun e w'=>e=.returned (.agg #[.bool false,.string ⟨#[]⟩,.int .i64 i])∧_
  clear h7 h5 hmm
  go_enter Tryz.func73,Tryz.ntmps73
  go_wp2
  refine bodyPost_ret (results_cell_row rfl _ _ (W.heap.size+1) _ _ (0,0) _ rfl HO.out Tryz.underlying86 rfl step_size16) rfl ?_
  exact ⟨rfl,HB2.out _⟩
end
section
open Go.RowKit
def ndK:RowK NdV where
 T:=60
 S:=35
 n:=7
 bytes:=112
 zero:=.agg #[.int .i64 0,.int .i64 0,.int .i64 0,.string ⟨#[]⟩,.slice none 0 0,.slice none 0 0,.slice none 0 0]
 enc:=ndCells
 pos:=by decide
 len:=fun _=>rfl
 one:=fun x u h=>by
   simp[ndCells] at h
   rcases h with rfl|rfl|rfl|rfl|rfl|rfl|rfl<;>rfl
 under:=Tryz.underlying35
 info:=by kernel_rfl
 zlen:=rfl
 small:=by decide
def NdIs (V0 w:World)(base:Nat)(s:NdV)(d:Nd):Prop:=VIs V0 d.t s.x∧GRow stpK w base (.slice s.S s.n s.c) d.p
end
end Go.Proofs.YtnokhgfifbkflaaGreat
