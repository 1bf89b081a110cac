/- Lemmas. -/
import Derived.Test.YtnokhgfifbkflaaGreatProg
import Derived.Test.YtnokhgfifbkflaaGreatJ41
set_option maxRecDepth 100000
set_option maxHeartbeats 8000000
set_option linter.unusedVariables false
set_option linter.unusedSimpArgs false
namespace Go.Proofs.YtnokhgfifbkflaaGreat
open Go.Lib (hid)
section
open Go.RowKit
theorem pre_down {v:Tree} {s:Sel} {k:Nat} (h:hitT v k s=true) (hn:s.kind=3∧s.stride<0):preT v s (k+1)=[k]++preT v s k:=by
 unfold preT
 rw[List.range_succ,List.filter_append,if_pos hn,if_pos hn]
 simp[h]
def RelCh (W2:World) (v:Tree) (s:Sel) (vo i:Value) (wr:World):Prop :=
 ∃ (k:Nat) (V:Value),V=vo∧k≤v.items.length∧i=.int .i64 k∧GRow plcK wr W2.heap.size vo (preT v s k)∧Below W2.heap.size W2 wr
theorem rchild_any (v:Tree) (x:V6) (s:Sel) (W:World) (hv:VIs W v x) (h5:v.kd=5→v.names.length=v.items.length) (hs:RightI s) (h9:v.items.length≤1000000) :
   Calls Tryz.prog 12 #[.agg #[.int .i64 x.kd,.int .i64 x.fr,.int .i64 x.to,.string ⟨x.tx.toArray⟩,.slice x.A x.n x.c,.slice x.B x.m x.d],.agg (selV s)] W (ChEnd (childT v s) W):=by
 have HM:=hid (fun (k:Nat) (hk:k<v.items.length) (w:World) (hb:Below W.heap.size W w)=>rmeets_any v x k s w (hv.stay hb) (fun h=>by rw[h5 h];exact hk) (by omega) hs (by omega))
 have hn:x.n=v.items.length:=by obtain ⟨kd,fr,td,tx,items,names⟩:=v;exact hv.many.1
 have hcap:x.n≤x.c:=by obtain ⟨kd,fr,td,tx,items,names⟩:=v;unfold VIs at hv;exact hv.2.2.2.2.1
 have hcap2:x.m≤x.d:=by obtain ⟨kd,fr,td,tx,items,names⟩:=v;unfold VIs at hv;exact hv.2.2.2.2.2.1
 obtain ⟨xk,xf,xt,xx,xA,n,xc,xB,m,xd⟩:=x
 replace hn:n=v.items.length:=hn
 replace hcap:n≤xc:=hcap
 replace hcap2:m≤xd:=hcap2
 clear hv h5
 show Calls _ _ #[.agg #[.int .i64 xk,.int .i64 xf,.int .i64 xt,.string ⟨xx.toArray⟩,.slice xA n xc,.slice xB m xd],.agg (selV s)] W _
 unfold selV at HM ⊢
 generalize hx0:(⟨xx.toArray⟩:ByteArray)=xs at *
 have O1:=(Own.fresh W 29 #[.int .i64 xk,.int .i64 xf,.int .i64 xt,.string xs,.slice xA n xc,.slice xB m xd]).over (.cells #[.int .i64 s.kind,.string s.name,.int .i64 s.index,.int .i64 s.start,.int .i64 s.en,.bool s.hs,.bool s.he,.int .i64 s.stride] 42)
 have O2:=Own.fresh (W.alloc (.cells #[.int .i64 xk,.int .i64 xf,.int .i64 xt,.string xs,.slice xA n xc,.slice xB m xd] 29)) 42 #[.int .i64 s.kind,.string s.name,.int .i64 s.index,.int .i64 s.start,.int .i64 s.en,.bool s.hs,.bool s.he,.int .i64 s.stride]
 have z1:(W.alloc (.cells #[.int .i64 xk,.int .i64 xf,.int .i64 xt,.string xs,.slice xA n xc,.slice xB m xd] 29)).heap.size=W.heap.size+1:=by simp
 rw[z1] at O2
 have B1:=below1s W (.cells #[.int .i64 xk,.int .i64 xf,.int .i64 xt,.string xs,.slice xA n xc,.slice xB m xd] 29)
 have B2:=below1s (W.alloc (.cells #[.int .i64 xk,.int .i64 xf,.int .i64 xt,.string xs,.slice xA n xc,.slice xB m xd] 29)) (.cells #[.int .i64 s.kind,.string s.name,.int .i64 s.index,.int .i64 s.start,.int .i64 s.en,.bool s.hs,.bool s.he,.int .i64 s.stride] 42)
 have B3:=B1.trans (B2.mono B1.size)
 obtain ⟨W2,hW2⟩:∃ W2,W2=(W.alloc (.cells #[.int .i64 xk,.int .i64 xf,.int .i64 xt,.string xs,.slice xA n xc,.slice xB m xd] 29)).alloc (.cells #[.int .i64 s.kind,.string s.name,.int .i64 s.index,.int .i64 s.start,.int .i64 s.en,.bool s.hs,.bool s.he,.int .i64 s.stride] 42):=⟨_,rfl⟩
 have HW2:=hid hW2
 rw[← hW2] at O1 O2 B3
 have HO1:=hid O1
 have HO2:=hid O2
 have HB3:=hid B3
 have HN:=hid hn
 clear O1 O2 z1 B1 B2 B3 hW2 hn
 go_enter Tryz.func12,Tryz.ntmps12
 go_wp2
 go_loopw [5,11] (fun vo i wr=>RelCh W2 v s vo i wr) (fun _ i _=>v.items.length-(intOf i).toNat)
 case atStart =>
   rw[← HW2.out]
   have e2:W.heap.size+1+1=W2.heap.size:=by rw[HW2.out];simp
   exact ⟨0,_,rfl,Nat.zero_le _,rfl,by rw[pre_zero,e2];exact GRow.made (K:=plcK) (l:=[]) W2 #[] rfl (by simp[maxLen]) (Nat.le_refl _),below1s _ _⟩
 case round =>
   obtain ⟨k,V,rfl,hk,rfl,hq,hb⟩:=hrel
   have hk9:(k:Int)≤1000000:=by omega
   have hnn:=HN.out
   by_cases hlt:k<v.items.length
   rotate_left
   ·have hltI:¬ (k:Int)<n:=by omega
    have HQ:=hid (show GRow plcK wr W.heap.size V (childT v s) by
      rw[← pre_child,show v.items.length=k by omega]
      exact hq.mono HB3.out.size)
    have HB:=hid (HB3.out.trans (hb.mono HB3.out.size))
    clear hq hb HM hnn
    go_wp2
    go_ret
    exact ⟨_,rfl,HQ.out,HB.out⟩
   have hltI:(k:Int)<n:=by omega
   have o1:=HO1.out.stay hb HO1.out.inside
   have c0:=o1.at 0
   have c1:=o1.at 1
   have c2:=o1.at 2
   have c3:=o1.at 3
   have c4:=o1.at 4
   have c5:=o1.at 5
   have o2:=HO2.out.stay hb HO2.out.inside
   have d0:=o2.at 0
   have d1:=o2.at 1
   have d2:=o2.at 2
   have d3:=o2.at 3
   have d4:=o2.at 4
   have d5:=o2.at 5
   have d6:=o2.at 6
   have d7:=o2.at 7
   simp at c0 c1 c2 c3 c4 c5 d0 d1 d2 d3 d4 d5 d6 d7
   have HP2:=hid o2
   have K1:=hid (HM.out k hlt)
   have HQ:=hid hq
   have HB:=hid hb
   have HBW:=hid (HB3.out.trans (hb.mono HB3.out.size))
   have hpl:=pre_len v s k
   clear o1 o2 HM hq hb hnn
   cases hit:hitT v k s
   ·have HPN:=hid (pre_not hit)
    rw[hit] at K1
    clear hit
    go_wp2_with (
      (go_at_call 31
       go_must (
         refine (K1.out _ HBW.out).mono ?_
         rintro e w4 ⟨rfl,hb4⟩
         have HQ4:=hid (HQ.out.keepB hb4 (Nat.le_refl _))
         have HB4:=hid (HB.out.trans (hb4.mono HB.out.size))
         clear hb4)))
    go_roundw
    case rel=>exact ⟨k+1,_,rfl,hlt,by go_num,by rw[HPN.out];exact HQ4.out,HB4.out⟩
    case measure=>simp[intOf];omega
   ·rw [hit] at K1
    by_cases hdn:s.kind=3∧s.stride<0
    ·have HPN:=hid (pre_down hit hdn)
     obtain ⟨hd3,hdn⟩:=hdn
     have g3:(s.kind==3)=true:=by rw[hd3];rfl
     obtain ⟨pA,pc,hpV,_⟩:=HQ.out.form
     subst hpV
     clear hit hd3
     go_wp2_with (first
       | (go_at_call 31
          go_must (
            refine (K1.out _ HBW.out).mono ?_
            rintro e w4 ⟨rfl,hb4⟩
            have o4:=HP2.out.stay hb4 HP2.out.inside
            have e0:=o4.at 0
            have e7:=o4.at 7
            simp at e0 e7
            have HQ4:=hid ((HQ.out.keepB hb4 (Nat.le_refl _)).keepB (below1s w4 (.cells #[.int .i64 k] 3)) (Nat.le_refl _))
            have HB4:=hid (HB.out.trans (hb4.mono HB.out.size))
            have HN4:=hid (new_plc w4 k W2.heap.size HB4.out.size)
            have HB5:=hid (HB4.out.trans ((below1s w4 (.cells #[.int .i64 k] 3)).mono HB4.out.size))
            clear hb4 o4))
       | (at_builtin
          go_must (
            refine row_append (K:=plcK) _ rfl (.tmp 28) (.tmp 29) rfl W2.heap.size _ [k] rfl HN4.out pA _ pc (preT v s k) rfl HQ4.out.rd (by simp;omega) HB5.out.size ?_
            intro v6 w6 row6 grown6 at6
            have HB6:=hid (below_grown HB5.out grown6 HB5.out.size (fun g' hg'=>(HN4.out.low (g:=g') hg').1))
            have R6:=hid row6
            clear grown6 at6 row6)))
     go_roundw
     case rel=>exact ⟨k+1,_,rfl,hlt,by go_num,by rw[HPN.out];exact R6.out,HB6.out⟩
     case measure=>simp[intOf];omega
    ·have HPN := hid (pre_up hit hdn)
     have HDN:=hid hdn
     clear hit hdn
     by_cases hd3:s.kind=3
     all_goals
       first
         | (have g3:(s.kind==3)=true:=by rw[hd3];rfl
            have gs:¬ s.stride<0:=fun h=>HDN.out ⟨hd3,h⟩
            clear hd3)
         | (have g3:(s.kind==3)=false:=beq_eq_false_iff_ne.2 hd3
            clear hd3)
       go_wp2_with (first
         | (go_at_call 31
            go_must (
              refine (K1.out _ HBW.out).mono ?_
              rintro e w4 ⟨rfl,hb4⟩
              have o4:=HP2.out.stay hb4 HP2.out.inside
              have e0:=o4.at 0
              have e7:=o4.at 7
              simp at e0 e7
              have HQ4:=hid ((HQ.out.keepB hb4 (Nat.le_refl _)).keepB (below1s w4 (.cells #[.int .i64 k] 3)) (Nat.le_refl _))
              have HB4:=hid (HB.out.trans (hb4.mono HB.out.size))
              have HN4:=hid (new_plc w4 k W2.heap.size HB4.out.size)
              have HB5:=hid (HB4.out.trans ((below1s w4 (.cells #[.int .i64 k] 3)).mono HB4.out.size))
              clear hb4 o4))
         | (at_builtin
            go_must (
              refine row_append (K:=plcK) _ rfl (.tmp 31) (.tmp 33) rfl W2.heap.size _ (preT v s k) rfl HQ4.out _ 1 1 [k] rfl HN4.out.rd (by simp;omega) HB5.out.size ?_
              intro v6 w6 row6 grown6 at6
              have HB6:=hid (below_grown HB5.out grown6 HB5.out.size (fun g' hg'=>(HQ4.out.low (g:=g') hg').1))
              have R6:=hid row6
              clear grown6 at6 row6)))
       go_roundw
       case rel=>exact ⟨k+1,_,rfl,hlt,by go_num,by rw[HPN.out];exact R6.out,HB6.out⟩
       case measure=>simp[intOf];omega
end
section
open Go.RowKit
def NsIs (V0 w:World) (base:Nat) (v:Value) (l:List Nd):Prop :=
 ∃ ns:List NdV,GRow ndK w base v ns∧ns.length=l.length ∧ ∀ (i:Nat) (s:NdV) (d:Nd),ns[i]?=some s→l[i]?=some d→NdIs V0 w base s d
theorem NsIs.keep {V0 w w':World} {base B:Nat} {v:Value} {l:List Nd} (h:NsIs V0 w base v l) (hb:Below B w w') (hB:w.heap.size≤B):NsIs V0 w' base v l:=by
 obtain ⟨ss,h1,h2,h3⟩:=h
 exact ⟨ss,h1.keepB hb hB,h2,fun i s x hs hx=>⟨(h3 i s x hs hx).1,(h3 i s x hs hx).2.keepB hb hB⟩⟩
theorem NsIs.mono {V0 w:World} {base b:Nat} {v:Value} {l:List Nd} (h:NsIs V0 w base v l) (hb:b≤base):NsIs V0 w b v l:=by
 obtain ⟨ss,h1,h2,h3⟩:=h
 exact ⟨ss,h1.mono hb,h2,fun i s x hs hx=>⟨(h3 i s x hs hx).1,(h3 i s x hs hx).2.mono hb⟩⟩
theorem nd_ne {w:World} {base:Nat} {v u:Value} {ss:List NdV} {xs:List Pst} (h:GRow ndK w base v ss) (h':GRow stpK w base u xs) {g:Nat} (hg:v.ownBlock=some g) (hu:u.ownBlock=some g):False:=by
 rcases h.2 with ⟨rfl,_⟩|⟨g1,c1,cur1,rfl,_,hh1,_⟩
 ·simp[Value.ownBlock] at hg
 rcases h'.2 with ⟨rfl,_⟩|⟨g2,c2,cur2,rfl,_,hh2,_⟩
 ·simp[Value.ownBlock] at hu
 have e1:g1=g:=by simpa [Value.ownBlock] using hg
 have e2:g2=g:=by simpa [Value.ownBlock] using hu
 subst e1 e2
 rw[hh1] at hh2
 have:=Option.some.inj hh2
 injection this with _ ht _
 exact absurd ht (by decide)
theorem NsIs.app {V0 w w':World} {base:Nat} {v v':Value} {acc l:List Nd} {ss ns:List NdV}
   (h1:GRow ndK w base v ss) (h2:ss.length=acc.length) (h3:∀ (i:Nat) (s:NdV) (y:Nd),ss[i]?=some s→acc[i]?=some y→NdIs V0 w base s y)
   (g2:ns.length=l.length) (g3:∀ (i:Nat) (s:NdV) (y:Nd),ns[i]?=some s→l[i]?=some y→NdIs V0 w base s y)
   (hrow:GRow ndK w' base v' (ss++ns)) (hg:w.grownBy w' v.ownBlock):NsIs V0 w' base v' (acc++l):=by
 have hk:∀ {u:Value} {xs:List Pst},GRow stpK w base u xs→GRow stpK w' base u xs:=fun {u xs} hu=>hu.stay fun g hgu=>by
   have hlow:=hu.low hgu
   exact hg.block g hlow.2 (fun e=>nd_ne h1 hu e.symm hgu)
 refine ⟨_,hrow,by simp[h2,g2],fun i s y hs hy => ?_⟩
 rcases Nat.lt_or_ge i ss.length with h|h
 ·rw[List.getElem?_append_left h] at hs
  rw[List.getElem?_append_left (by omega)] at hy
  exact ⟨(h3 i s y hs hy).1,hk (h3 i s y hs hy).2⟩
 ·rw[List.getElem?_append_right h] at hs
  rw[List.getElem?_append_right (by omega),← h2] at hy
  exact ⟨(g3 _ s y hs hy).1,hk (g3 _ s y hs hy).2⟩
end
end Go.Proofs.YtnokhgfifbkflaaGreat
