/- Lemmas. -/
import Derived.Test.YtnokhgfifbkflaaGreatJ21
set_option maxRecDepth 100000
set_option maxHeartbeats 8000000
set_option linter.unusedVariables false
namespace Go.Proofs.YtnokhgfifbkflaaGreat
open Go.Lib (hid)
section
open Go.RowKit
theorem name_rd (w:World) (l:List UInt8) (g:Nat) (hg:g=w.heap.size):RdG namK (w.alloc (.cells #[.string ⟨l.toArray⟩] 9)) (some ⟨g,0,none⟩) 1 [l]:=by
 subst hg
 exact (GRow.made (K:=namK) (base:=0) (l:=[l]) w _ rfl (show 1≤maxLen by decide) (Nat.zero_le _)).rd
theorem vis_tx {w:World} {t:Tree} {x:V6} (h:VIs w t x):x.tx=t.tx:=by
 cases t
 unfold VIs at h
 exact h.2.2.2.1
theorem VKept.move {B E:Nat}{w w':World}{t:Tree}{x:V6}(h:VKept B E w t x)(hw:∀ b,B≤b→b<E→w'.heap[b]?=w.heap[b]?):VKept B E w' t x:=fun u hu=>h u (fun b h1 h2=>(hu b h1 h2).trans (hw b h1 h2))
theorem six_of {w:World} {g:Nat} {T:TypeId} {x:V6} {b:Bool} {p f:Int} (h:Own w g T #[.int .i64 x.kd,.int .i64 x.fr,.int .i64 x.to,.string ⟨x.tx.toArray⟩,.slice x.A x.n x.c,.slice x.B x.m x.d,.bool b,.int .i64 p,.int .i64 f]) :
   w.cell? ⟨g,0,none⟩=some (.int .i64 x.kd)∧w.cell? ⟨g,1,none⟩=some (.int .i64 x.fr)∧w.cell? ⟨g,2,none⟩=some (.int .i64 x.to)∧w.cell? ⟨g,3,none⟩=some (.string ⟨x.tx.toArray⟩)∧w.cell? ⟨g,4,none⟩=some (.slice x.A x.n x.c)∧w.cell? ⟨g,5,none⟩=some (.slice x.B x.m x.d)∧True :=
 ⟨h.at 0,h.at 1,h.at 2,h.at 3,h.at 4,h.at 5,trivial⟩
theorem nameR_end (l:List UInt8) (k:Nat) (hk:l.length≤k):nameR10 l k=(none,10,l.length):=by
 unfold nameR10
 rw[if_pos hk]
theorem nameR_no (l:List UInt8) (k:Nat) (hk:k<l.length) (h:l.getD k 0≠34):nameR10 l k=(none,8,k):=by
 unfold nameR10
 rw[if_neg (by omega),if_pos h]
theorem nameR_go (l:List UInt8) (k:Nat) (hk:k<l.length) (h:l.getD k 0=34) (qv:Tree) (qb:Bool) (qp:Nat) (qf:Int) (hq:quotedR l k=⟨qv,qb,qp,qf⟩) :
   nameR10 l k=if qf≠0 then (none,qf,qp) else if l.length≤blankR l qp then (none,10,l.length) else if l.getD (blankR l qp) 0≠58 then (none,8,blankR l qp)
     else if l.length≤blankR l (blankR l qp+1) then (none,10,l.length) else (some (qv.tx,blankR l (blankR l qp+1)),0,0):=by
 unfold nameR10
 rw[if_neg (by omega),if_neg (fun e=>e h),hq]
theorem objGo_no (l:List UInt8) (sm:Nat→PartR) (fr f k:Nat) (items:List Tree) (names:List (List UInt8)) (q:Int) (p:Nat) (h:nameR10 l k=(none,q,p)):objGo l sm fr (f+1) k items names=brkR10 5 fr items names q p:=by
 show (match nameR10 l k with|(none,fault,pt)=>_|(some (nm,v),_,_)=>_)=_
 rw[h]
theorem objGo_go (l:List UInt8) (sm:Nat→PartR) (fr f k:Nat) (items:List Tree) (names:List (List UInt8)) (nm:List UInt8) (v:Nat) (h:nameR10 l k=(some (nm,v),0,0)) (pv:Tree) (pb:Bool) (pp:Nat) (pf:Int) (hp:sm v=⟨pv,pb,pp,pf⟩) :
   objGo l sm fr (f+1) k items names=if pf≠0 then brkR10 5 fr (if pb then items++[pv] else items) (if pb then names++[nm] else names) pf pp
     else if l.length≤blankR l pp then brkR10 5 fr (if pb then items++[pv] else items) (if pb then names++[nm] else names) 10 l.length
     else if l.getD (blankR l pp) 0=125 then ⟨.mk 5 fr (blankR l pp+1) [] (if pb then items++[pv] else items) (if pb then names++[nm] else names),true,blankR l pp+1,0⟩
     else if l.getD (blankR l pp) 0≠44 then brkR10 5 fr (if pb then items++[pv] else items) (if pb then names++[nm] else names) 8 (blankR l pp)
     else objGo l sm fr f (blankR l (blankR l pp+1)) (if pb then items++[pv] else items) (if pb then names++[nm] else names):=by
 show (match nameR10 l k with|(none,fault,pt)=>_|(some (nm,v),_,_)=>_)=_
 rw[h]
 show (if (sm v).fault≠0 then _ else _)=_
 rw[hp]
def RelOb (s:ByteArray) (sm:Nat→PartR) (fr:Nat) (P:PartR) (W wr:World) (v:Value):Prop :=
 ∃ (k f:Nat) (ts:List Tree) (ns:List (List UInt8)) (xs:List V6) (A:Option Addr) (c:Nat) (B:Option Addr) (d:Nat),
   k≤s.size∧s.size<f+k∧(ts.length≤k∧ns.length≤k)∧v=.int .i64 k∧objGo s.data.toList sm fr f k ts ns=P∧ArX W wr 5 fr A c B d ts ns xs
set_option maxHeartbeats 32000000 in
theorem robj_empty (s:ByteArray) (cl:Bool) (n k b:Nat) (hs:s.size≤50000) (hn:n≤100000) (hk:k<s.size) (hb:blankR s.data.toList (k+1)=b) (hlt:b<s.size) (e0:(s[b].toNat:Int)=125) (W:World) :
   Calls Tryz.prog 94 #[.string s,.int .i64 k,.int .i64 ((n:Int)+1),.bool cl] W fun e w'=>PartP W ⟨.mk 5 k (b+1) [] [] [],true,b+1,0⟩ e w':=by
 have HK:=hid (fun w=>rblank_at s hs (k+1) b ((k:Int)+1) rfl hk hb w)
 clear hb
 go_enter Tryz.func94,Tryz.ntmps94
 go_wp2_with (
   go_at_call 59
   go_must (
     refine (HK.out _).mono ?_
     rintro e w1 ⟨rfl,hw1⟩
     have A0:ArX W w1 5 k none 0 none 0 [] [] []:=by rw[← hw1];exact ArX.start W 5 k
     clear hw1
     obtain ⟨v0,v1,v2,v3,v4,v5,u2,u4,u5⟩:=A0.facts rfl rfl
     obtain ⟨o4,hO,hT,hV⟩:=A0.well rfl rfl (b+1) ((b:Int)+1) ((b:Int)+1) rfl
     obtain ⟨p0,p1,p2,p3,p4,p5,p6,p7,p8,f0,f1,f2,f3,f4,f5,f6,f7,f8⟩:=nine_facts o4
     unfold put9 at hO hT hV
     have HO:=hid hO
     have HT:=hid hT
     have HV:=hid hV
     clear hO hT hV o4 A0))
 refine bodyPost_ret (results_cell_row rfl _ _ W.heap.size _ _ (0,0) _ rfl HO.out Tryz.underlying125 rfl part_size) rfl ?_
 exact ⟨_,rfl,HV.out,HT.out⟩
set_option maxHeartbeats 32000000 in
theorem robj_none (s:ByteArray) (cl:Bool) (n k b:Nat) (hs:s.size≤50000) (hn:n≤100000) (hk:k<s.size) (hb:blankR s.data.toList (k+1)=b) (hlt:¬ b<s.size) (W:World) :
   Calls Tryz.prog 94 #[.string s,.int .i64 k,.int .i64 ((n:Int)+1),.bool cl] W fun e w'=>PartP W (brkR10 5 k [] [] 10 s.size) e w':=by
 have HK:=hid (fun w=>rblank_at s hs (k+1) b ((k:Int)+1) rfl hk hb w)
 have HB:=hid (fun (kk f:Int) (w:World)=>rbroken_any 5 k 0 ⟨#[]⟩ none 0 0 none 0 0 kk f w)
 have hge:s.size≤b:=by omega
 clear hb
 go_enter Tryz.func94,Tryz.ntmps94
 go_wp2_with (
   go_at_call 59
   go_must (
     refine (HK.out _).mono ?_
     rintro e w1 ⟨rfl,hw1⟩
     have A0:ArX W w1 5 k none 0 none 0 [] [] []:=by rw[← hw1];exact ArX.start W 5 k
     clear hw1
     obtain ⟨v0,v1,v2,v3,v4,v5,u2,u4,u5⟩:=A0.facts rfl rfl))
 refine wp_loop_rounds 2 ?_
 rw[rounds_succ]
 go_wp2_with (
   go_at_call 113
   go_must (
     refine (HB.out 10 s.size _).mono ?_
     rintro e w9 ⟨rfl,hb9⟩
     obtain ⟨o4,hO,hT,hV⟩:=A0.broke rfl rfl hb9 10 s.size
     obtain ⟨p0,p1,p2,p3,p4,p5,p6,p7,p8,f0,f1,f2,f3,f4,f5,f6,f7,f8⟩:=nine_facts o4
     unfold put9 at hO hT hV
     have HO:=hid hO
     have HT:=hid hT
     have HV:=hid hV
     clear hO hT hV o4 hb9))
 refine bodyPost_ret (results_cell_row rfl _ _ W.heap.size _ _ (0,0) _ rfl HO.out Tryz.underlying125 rfl part_size) rfl ?_
 exact ⟨_,rfl,HV.out,HT.out⟩
set_option maxHeartbeats 32000000 in
theorem robj_loop (s : ByteArray) (cl:Bool) (n fr b:Nat) (hs:s.size≤50000) (hn:n≤100000) (HSC:SomeC s cl n) (hk:fr<s.size) (hb:blankR s.data.toList (fr+1)=b) (hlt0:b<s.size) (e0:¬ (s[b].toNat:Int)=125) (W:World)
   (P:PartR) (hP:objGo s.data.toList (someR s.data.toList cl n) fr (s.size+1-b) b [] []=P) :
   Calls Tryz.prog 94 #[.string s,.int .i64 fr,.int .i64 ((n:Int)+1),.bool cl] W fun e w'=>PartP W P e w':=by
 have hsl:s.data.toList.length=s.size:=rfl
 have HK:=hid (fun w=>rblank_at s hs (fr+1) b ((fr:Int)+1) rfl hk hb w)
 have HX:=hid hP
 have e0b:((s[b].toNat:Int)==125)=false:=beq_eq_false_iff_ne.2 e0
 clear hb hP e0
 go_enter Tryz.func94,Tryz.ntmps94
 go_wp2_with (
   go_at_call 59
   go_must (
     refine (HK.out _).mono ?_
     rintro e w1 ⟨rfl,hw1⟩
     have A0:ArX W w1 5 fr none 0 none 0 [] [] []:=by rw[← hw1];exact ArX.start W 5 fr
     clear hw1))
 go_loopw [10] (fun v wr=>RelOb s (someR s.data.toList cl n) fr P W wr v) (fun v _=>s.size-(intOf v).toNat)
 case atStart=>exact ⟨b,s.size+1-b,[],[],[],none,0,none,0,by omega,by omega,⟨Nat.zero_le _,Nat.zero_le _⟩,rfl,HX.out,A0⟩
 case round =>
   clear A0 HX HK
   obtain ⟨k,f,ts,ns,xs,A,c,B,d,hks,hfk,hlen,rfl,hP,hA⟩:=hrel
   obtain ⟨f,rfl⟩:∃ g,f=g+1:=⟨f-1,by omega⟩
   obtain ⟨n0,hn0⟩:∃ n0,ts.length=n0:=⟨_,rfl⟩
   obtain ⟨m0,hm0⟩:∃ m0,ns.length=m0:=⟨_,rfl⟩
   have HN:=hid hn0
   have HM:=hid hm0
   have HL:=hid (show ts.length≤50000∧ns.length≤50000 by omega)
   have HLK:=hid hlen
   have HFK:=hid hfk
   have tokA:True:=trivial
   have tokB:True:=trivial
   have tokC:True:=trivial
   have tokN:True:=trivial
   clear hlen hfk
   by_cases hlt:k<s.size
   ·by_cases h34 : s[k] = 34
    ·have e34 : (s[k].toNat : Int)=34:=(u8_int10 (by decide)).1 h34
     obtain ⟨⟨qv,qb,qp,qf⟩,hq⟩:∃ q,quotedR s.data.toList k=q:=⟨_,rfl⟩
     have hqb:=quotedR_bd s.data.toList k hlt
     rw[hq] at hqb
     have hqp:qp≤s.size:=hqb.1
     have hq0:qf=0→k≤qp∧qb=true:=hqb.2
     have HQ:=hid (fun w=>rquoted_any s k (by omega) hlt w _ hq)
     have hnm:=nameR_go s.data.toList k hlt (by rw[getD_at s k hlt];exact h34) qv qb qp qf hq
     clear hqb hq
     by_cases hqf:qf=0
     ·have hkq := (hq0 hqf).1
      subst hqf
      rw[if_neg (fun h=>h rfl)] at hnm
      obtain ⟨k1,hk1⟩:∃ k1,blankR s.data.toList qp=k1:=⟨_,rfl⟩
      have hbl:=blankR_le s.data.toList qp hqp
      have HK1:=hid (fun w=>rblank_at s hs qp k1 qp rfl hqp hk1 w)
      rw[hk1] at hnm hbl
      have hk11:qp≤k1:=hbl.1
      have hk12:k1≤s.size:=hbl.2
      clear hq0 hk1 hbl
      by_cases hl1:k1<s.size
      ·rw [if_neg (show ¬ s.data.toList.length≤k1 from by rw[hsl];omega),getD_at s k1 hl1] at hnm
       by_cases h58:s[k1]=58
       ·have e58 : (s[k1].toNat:Int)=58:=(u8_int10 (by decide)).1 h58
        rw[if_neg (fun h=>h h58)] at hnm
        obtain ⟨k2,hk2⟩:∃ k2,blankR s.data.toList (k1+1)=k2:=⟨_,rfl⟩
        have hbl:=blankR_le s.data.toList (k1+1) hl1
        have HK2:=hid (fun w=>rblank_at s hs (k1+1) k2 ((k1:Int)+1) rfl hl1 hk2 w)
        rw[hk2] at hnm hbl
        have hk21:k1+1≤k2:=hbl.1
        have hk22:k2≤s.size:=hbl.2
        clear hk2 hbl h58 h34
        by_cases hl2:k2<s.size
        ·rw [if_neg (show ¬ s.data.toList.length≤k2 from by rw[hsl];omega)] at hnm
         obtain ⟨⟨pv,pb,pp,pf⟩,hp⟩:∃ p,someR s.data.toList cl n k2=p:=⟨_,rfl⟩
         have hbd:=someR_bd s.data.toList cl n k2 hl2
         have HSM:=HSC k2 hl2
         rw[hp] at hbd HSM
         have hpp:pp≤s.size:=hbd.1
         have hp0:pf=0→k2≤pp∧pb=true:=hbd.2
         rw[objGo_go s.data.toList _ fr f k ts ns _ _ hnm pv pb pp pf hp] at hP
         have HSM:=hid HSM
         have HA:=hid hA
         clear hp hbd hA hn0 hm0 hnm
         by_cases hpf:pf=0
         ·obtain ⟨hkp, rfl⟩:=hp0 hpf
          subst hpf
          rw[if_neg (fun h=>h rfl),if_pos rfl,if_pos rfl] at hP
          obtain ⟨k3,hk3⟩:∃ k3,blankR s.data.toList pp=k3:=⟨_,rfl⟩
          have hbl:=blankR_le s.data.toList pp hpp
          have HK3:=hid (fun w=>rblank_at s hs pp k3 pp rfl hpp hk3 w)
          rw[hk3] at hP hbl
          have hk31:pp≤k3:=hbl.1
          have hk32:k3≤s.size:=hbl.2
          clear hp0 hk3 hbl
          by_cases hl3:k3<s.size
          ·rw [if_neg (show ¬ s.data.toList.length≤k3 from by rw[hsl];omega),getD_at s k3 hl3] at hP
           by_cases h125:s[k3]=125
           ·have e125 : (s[k3].toNat:Int)=125:=(u8_int10 (by decide)).1 h125
            rw[if_pos h125] at hP
            have HP2:=hid hP
            clear hP h125
            go_upto_region 31 with (first
              | (go_at_call 90
                 go_must (
                   refine (HQ.out _).mono ?_
                   rintro e w2 ⟨y,rfl,hky,hb2⟩
                   have hz2:=hb2.size
                   have A2:=(HA.out.stay hb2).stay (below1 w2 (.cells #[.int .i64 y.kd,.int .i64 y.fr,.int .i64 y.to,.string ⟨y.tx.toArray⟩,.slice y.A y.n y.c,.slice y.B y.m y.d,.bool qb,.int .i64 qp,.int .i64 0] 125))
                   have hyt:y.tx=qv.tx:=vis_tx (hky w2 (fun _ _ _=>rfl))
                   have HY:=hid hyt
                   obtain ⟨v0,v1,v2,v3,v4,v5,u2,u4,u5⟩:=A2.facts HN.out HM.out
                   have H2:=hid A2
                   clear A2 hky hb2 hyt))
              | (go_at_call 59;clear tokA;refine (HK1.out _).mono ?_;rintro e w' ⟨rfl,rfl⟩)
              | (go_at_call 59;clear tokB;refine (HK2.out _).mono ?_;rintro e w' ⟨rfl,rfl⟩)
              | (go_at_call 60
                 go_must (
                   refine (HSM.out _).mono ?_
                   rintro e w3 ⟨x,rfl,hk3,hb3⟩
                   have hz3:=hb3.size
                   simp at hz3
                   have A3:=H2.out.stay hb3
                   have A4:=A3.stay (below1 w3 (.cells #[.int .i64 x.kd,.int .i64 x.fr,.int .i64 x.to,.string ⟨x.tx.toArray⟩,.slice x.A x.n x.c,.slice x.B x.m x.d,.bool true,.int .i64 pp,.int .i64 0] 125))
                   obtain ⟨v0',v1',v2',v3',v4',v5',u2',u4',u5'⟩:=A4.facts HN.out HM.out
                   have OQ3:Own w3 w2.heap.size 125 #[.int .i64 y.kd,.int .i64 y.fr,.int .i64 y.to,.string ⟨y.tx.toArray⟩,.slice y.A y.n y.c,.slice y.B y.m y.d,.bool qb,.int .i64 qp,.int .i64 0]:=(Own.fresh w2 125 #[.int .i64 y.kd,.int .i64 y.fr,.int .i64 y.to,.string ⟨y.tx.toArray⟩,.slice y.A y.n y.c,.slice y.B y.m y.d,.bool qb,.int .i64 qp,.int .i64 0]).stay hb3 (by simp)
                   have q3:=(OQ3.over (.cells #[.int .i64 x.kd,.int .i64 x.fr,.int .i64 x.to,.string ⟨x.tx.toArray⟩,.slice x.A x.n x.c,.slice x.B x.m x.d,.bool true,.int .i64 pp,.int .i64 0] 125)).at 3
                   simp at q3
                   have A5:=A4.stay (below1 _ (.cells #[.string ⟨y.tx.toArray⟩] 9))
                   have OP5:=(Own.fresh w3 125 #[.int .i64 x.kd,.int .i64 x.fr,.int .i64 x.to,.string ⟨x.tx.toArray⟩,.slice x.A x.n x.c,.slice x.B x.m x.d,.bool true,.int .i64 pp,.int .i64 0]).over (.cells #[.string ⟨y.tx.toArray⟩] 9)
                   have hb5:Below w3.heap.size w3 ((w3.alloc (.cells #[.int .i64 x.kd,.int .i64 x.fr,.int .i64 x.to,.string ⟨x.tx.toArray⟩,.slice x.A x.n x.c,.slice x.B x.m x.d,.bool true,.int .i64 pp,.int .i64 0] 125)).alloc (.cells #[.string ⟨y.tx.toArray⟩] 9)):=below2 w3 _ _
                   have hk5:VKept (w2.heap.size+1) w3.heap.size ((w3.alloc (.cells #[.int .i64 x.kd,.int .i64 x.fr,.int .i64 x.to,.string ⟨x.tx.toArray⟩,.slice x.A x.n x.c,.slice x.B x.m x.d,.bool true,.int .i64 pp,.int .i64 0] 125)).alloc (.cells #[.string ⟨y.tx.toArray⟩] 9)) pv x:=fun u hu=>hk3 u (fun b h1 h2=>(hu b (by simp at h1;omega) h2).trans (hb5.block b h2))
                   have H5:=hid (And.intro A5 (And.intro OP5 (And.intro hk5 hb5.size)))
                   have NEW:=hid (name_rd (w3.alloc (.cells #[.int .i64 x.kd,.int .i64 x.fr,.int .i64 x.to,.string ⟨x.tx.toArray⟩,.slice x.A x.n x.c,.slice x.B x.m x.d,.bool true,.int .i64 pp,.int .i64 0] 125)) y.tx (w3.heap.size+1) (by simp))
                   clear hk3 hb3 A3 A4 A5 OQ3 OP5 hk5 hb5))
              | (at_builtin
                 clear tokN
                 go_must (
                   refine row_append (K:=namK) _ rfl (.tmp 103) (.tmp 107) rfl (W.heap.size+2) (.slice B m0 d) ns rfl (HM.out▸H5.out.1.nam) _ 1 1 [y.tx] rfl NEW.out (by have:=HL.out;omega) H5.out.1.big ?_
                   intro v5 w5 hr5 hg5 hat5
                   rw[← HM.out] at hg5 hat5
                   obtain ⟨B',d',hv5,A6⟩:=H5.out.1.pushN hr5 hg5 hat5
                   obtain ⟨m6,hm6⟩:∃ m6,(ns++[y.tx]).length=m6:=⟨_,rfl⟩
                   rw[hm6] at hv5
                   subst hv5
                   have hz5:=hg5.size
                   simp at hz5
                   have hwn:∀ g,(Value.slice B ns.length d).ownBlock=some g→g<wr.heap.size:=fun g e=>(HA.out.nam.low e).2
                   have hbg:=HA.out.big
                   have O5:Own w5 w3.heap.size 125 #[.int .i64 x.kd,.int .i64 x.fr,.int .i64 x.to,.string ⟨x.tx.toArray⟩,.slice x.A x.n x.c,.slice x.B x.m x.d,.bool true,.int .i64 pp,.int .i64 0]:=(hg5.block _ H5.out.2.1.inside (fun e=>by have:=hwn _ e.symm;omega)).trans H5.out.2.1
                   have O6:Own (w5.setCell ⟨W.heap.size+1,5,none⟩ (.slice B' m6 d')) w3.heap.size 125 #[.int .i64 x.kd,.int .i64 x.fr,.int .i64 x.to,.string ⟨x.tx.toArray⟩,.slice x.A x.n x.c,.slice x.B x.m x.d,.bool true,.int .i64 pp,.int .i64 0]:=Own.past O5 (by show w3.heap.size≠W.heap.size+1;omega) _
                   have OV5:Own w5 (W.heap.size+1) 29 #[.int .i64 5,.int .i64 fr,.int .i64 0,.string ⟨#[]⟩,.slice A ts.length c,.slice B ns.length d] :=
                     (hg5.block _ H5.out.1.val.inside (fun e=>by have:=(H5.out.1.nam.low e.symm).1;omega)).trans H5.out.1.val
                   have y5:=OV5.at 5
                   have z5:=OV5.free 5
                   simp at y5
                   obtain ⟨x0,x1,x2,x3,x4,x5,x6⟩:=six_of O6
                   have q6:=O6.at 6
                   have q7:=O6.at 7
                   have q8:=O6.at 8
                   simp at q6 q7 q8
                   have hk6:VKept (w2.heap.size+1) w3.heap.size (w5.setCell ⟨W.heap.size+1,5,none⟩ (.slice B' m6 d')) pv x :=
                     H5.out.2.2.1.move (fun b h1 h2=>(Below.heap_setCell w5 _ _ b (by show b≠W.heap.size+1;omega)).trans (hg5.block b (by have:=H5.out.2.2.2;omega) (fun e=>by have:=hwn _ e.symm;omega)))
                   have hown6:∀ g,(Value.slice B' m6 d').ownBlock=some g→g<w2.heap.size+1∨w3.heap.size≤g:=fun g e=>by
                     rcases hat5 with q|q
                     ·rw[q] at e;have:=hwn _ e;omega
                     ·rw[q] at e;have:=Option.some.inj e;simp at this;omega
                   obtain ⟨t0,t1,t2,t3,t4,t5,t6,t7,t8⟩:=A6.facts HN.out hm6
                   have A7:=A6.stay (below1 _ (.cells #[.int .i64 x.kd,.int .i64 x.fr,.int .i64 x.to,.string ⟨x.tx.toArray⟩,.slice x.A x.n x.c,.slice x.B x.m x.d] 29))
                   have O7:=O6.over (.cells #[.int .i64 x.kd,.int .i64 x.fr,.int .i64 x.to,.string ⟨x.tx.toArray⟩,.slice x.A x.n x.c,.slice x.B x.m x.d] 29)
                   have hk7:=hk6.move (w':=(w5.setCell ⟨W.heap.size+1,5,none⟩ (.slice B' m6 d')).alloc (.cells #[.int .i64 x.kd,.int .i64 x.fr,.int .i64 x.to,.string ⟨x.tx.toArray⟩,.slice x.A x.n x.c,.slice x.B x.m x.d] 29)) (fun b _ h2=>Below.heap_alloc _ _ b (by have:=O6.inside;omega))
                   have hz7:w3.heap.size<((w5.setCell ⟨W.heap.size+1,5,none⟩ (.slice B' m6 d')).alloc (.cells #[.int .i64 x.kd,.int .i64 x.fr,.int .i64 x.to,.string ⟨x.tx.toArray⟩,.slice x.A x.n x.c,.slice x.B x.m x.d] 29)).heap.size:=O7.inside
                   have H7:=hid (And.intro A7 (And.intro O7 (And.intro hk7 (And.intro hown6 hz7))))
                   have NEW7:=hid (item_rd (w5.setCell ⟨W.heap.size+1,5,none⟩ (.slice B' m6 d')) x w5.heap.size (by simp[World.setCell]))
                   have HN6:=hid hm6
                   clear hr5 hg5 hat5 A6 O5 O6 OV5 hwn hm6 hk6 hown6 A7 O7 hk7 hz7))
              | (at_builtin
                 go_must (
                   refine row_append (K:=valK) _ rfl (.tmp 111) (.tmp 114) rfl (W.heap.size+2) (.slice A n0 c) xs rfl (HN.out▸H7.out.1.row) _ 1 1 [x] rfl NEW7.out (by have:=H7.out.1.len;have:=HL.out;omega) H7.out.1.big ?_
                   intro v7 w7 hr7 hg7 hat7
                   rw[← HN.out] at hg7 hat7
                   have hwn:∀ g,(Value.slice A ts.length c).ownBlock=some g→g<wr.heap.size:=fun g e=>(HA.out.row.low e).2
                   have hbg:=HA.out.big
                   obtain ⟨A',c',hv7,A8⟩:=H7.out.1.push H7.out.2.2.1 (by omega) (Nat.le_of_lt H7.out.2.2.2.2) (fun g e=>by have:=hwn _ e;omega) (HN6.out.symm▸H7.out.2.2.2.1) hr7 hg7 hat7
                   obtain ⟨n8,hn8⟩:∃ n8,(ts++[pv]).length=n8:=⟨_,rfl⟩
                   rw[hn8] at hv7
                   subst hv7
                   have hz8:=hg7.size
                   simp[World.setCell] at hz8
                   have O8:Own (w7.setCell ⟨W.heap.size+1,4,none⟩ (.slice A' n8 c')) w3.heap.size 125 #[.int .i64 x.kd,.int .i64 x.fr,.int .i64 x.to,.string ⟨x.tx.toArray⟩,.slice x.A x.n x.c,.slice x.B x.m x.d,.bool true,.int .i64 pp,.int .i64 0] :=
                     Own.past (show Own w7 _ _ _ from (hg7.block _ H7.out.2.1.inside (fun e=>by have:=hwn _ e.symm;omega)).trans H7.out.2.1) (by show w3.heap.size≠W.heap.size+1;omega) _
                   have OV7:Own w7 (W.heap.size+1) 29 #[.int .i64 5,.int .i64 fr,.int .i64 0,.string ⟨#[]⟩,.slice A ts.length c,.slice B' (ns++[y.tx]).length d'] :=
                     (hg7.block _ H7.out.1.val.inside (fun e=>by have:=(H7.out.1.row.low e.symm).1;omega)).trans H7.out.1.val
                   rw[HN6.out] at OV7
                   have y4:=OV7.at 4
                   have z4:=OV7.free 4
                   have r7:=O8.at 7
                   have r8:=O8.at 8
                   simp at y4 r7 r8
                   have y0:=OV7.at 0
                   have y1:=OV7.at 1
                   have y2:=OV7.at 2
                   have y3:=OV7.at 3
                   have y7:=OV7.at 5
                   have z2:=OV7.free 2
                   simp at y0 y1 y2 y3 y7
                   have HA8:=hid A8
                   have HN8:=hid hn8
                   clear hr7 hg7 hat7 A8 O8 OV7 hwn hn8))
              | (go_at_call 59;clear tokC;refine (HK3.out _).mono ?_;rintro e w' ⟨rfl,rfl⟩))
            obtain ⟨o4,hO,hT,hV⟩:=HA8.out.well HN8.out HN6.out (k3+1) ((k3:Int)+1) ((k3:Int)+1) rfl
            obtain ⟨p0,p1,p2,p3,p4,p5,p6,p7,p8,f0,f1,f2,f3,f4,f5,f6,f7,f8⟩:=nine_facts o4
            unfold put9 at hO hT hV
            have HO:=hid hO
            have HT:=hid hT
            have HV:=hid hV
            clear hO hT hV o4
            go_wp2
            refine bodyPost_ret (results_cell_row rfl _ _ W.heap.size _ _ (0,0) _ rfl HO.out Tryz.underlying125 rfl part_size) rfl ?_
            rw[← HP2.out,← HY.out]
            exact ⟨_,rfl,HV.out,HT.out⟩
           ·have e125 : ¬ (s[k3].toNat:Int)=125:=fun e=>h125 ((u8_int10 (by decide)).2 e)
            rw[if_neg h125] at hP
            by_cases h44:s[k3]=44
            ·have e44 : (s[k3].toNat:Int)=44:=(u8_int10 (by decide)).1 h44
             rw[if_neg (fun h=>h h44)] at hP
             obtain ⟨k4,hk4⟩:∃ k4,blankR s.data.toList (k3+1)=k4:=⟨_,rfl⟩
             have hbl:=blankR_le s.data.toList (k3+1) hl3
             have HK4:=hid (fun w=>rblank_at s hs (k3+1) k4 ((k3:Int)+1) rfl hl3 hk4 w)
             rw[hk4] at hP hbl
             have hb41:=hbl.1
             have hb42:k4≤s.size:=hbl.2
             have HP:=hid hP
             clear hP h125 h44 hk4 hbl
             go_wp2_with (first
               | (go_at_call 90
                  go_must (
                    refine (HQ.out _).mono ?_
                    rintro e w2 ⟨y,rfl,hky,hb2⟩
                    have hz2:=hb2.size
                    have A2:=(HA.out.stay hb2).stay (below1 w2 (.cells #[.int .i64 y.kd,.int .i64 y.fr,.int .i64 y.to,.string ⟨y.tx.toArray⟩,.slice y.A y.n y.c,.slice y.B y.m y.d,.bool qb,.int .i64 qp,.int .i64 0] 125))
                    have hyt:y.tx=qv.tx:=vis_tx (hky w2 (fun _ _ _=>rfl))
                    have HY:=hid hyt
                    obtain ⟨v0,v1,v2,v3,v4,v5,u2,u4,u5⟩:=A2.facts HN.out HM.out
                    have H2:=hid A2
                    clear A2 hky hb2 hyt))
               | (go_at_call 59;clear tokA;refine (HK1.out _).mono ?_;rintro e w' ⟨rfl,rfl⟩)
               | (go_at_call 59;clear tokB;refine (HK2.out _).mono ?_;rintro e w' ⟨rfl,rfl⟩)
               | (go_at_call 60
                  go_must (
                    refine (HSM.out _).mono ?_
                    rintro e w3 ⟨x,rfl,hk3,hb3⟩
                    have hz3:=hb3.size
                    simp at hz3
                    have A3:=H2.out.stay hb3
                    have A4:=A3.stay (below1 w3 (.cells #[.int .i64 x.kd,.int .i64 x.fr,.int .i64 x.to,.string ⟨x.tx.toArray⟩,.slice x.A x.n x.c,.slice x.B x.m x.d,.bool true,.int .i64 pp,.int .i64 0] 125))
                    obtain ⟨v0',v1',v2',v3',v4',v5',u2',u4',u5'⟩:=A4.facts HN.out HM.out
                    have OQ3:Own w3 w2.heap.size 125 #[.int .i64 y.kd,.int .i64 y.fr,.int .i64 y.to,.string ⟨y.tx.toArray⟩,.slice y.A y.n y.c,.slice y.B y.m y.d,.bool qb,.int .i64 qp,.int .i64 0]:=(Own.fresh w2 125 #[.int .i64 y.kd,.int .i64 y.fr,.int .i64 y.to,.string ⟨y.tx.toArray⟩,.slice y.A y.n y.c,.slice y.B y.m y.d,.bool qb,.int .i64 qp,.int .i64 0]).stay hb3 (by simp)
                    have q3:=(OQ3.over (.cells #[.int .i64 x.kd,.int .i64 x.fr,.int .i64 x.to,.string ⟨x.tx.toArray⟩,.slice x.A x.n x.c,.slice x.B x.m x.d,.bool true,.int .i64 pp,.int .i64 0] 125)).at 3
                    simp at q3
                    have A5:=A4.stay (below1 _ (.cells #[.string ⟨y.tx.toArray⟩] 9))
                    have OP5:=(Own.fresh w3 125 #[.int .i64 x.kd,.int .i64 x.fr,.int .i64 x.to,.string ⟨x.tx.toArray⟩,.slice x.A x.n x.c,.slice x.B x.m x.d,.bool true,.int .i64 pp,.int .i64 0]).over (.cells #[.string ⟨y.tx.toArray⟩] 9)
                    have hb5:Below w3.heap.size w3 ((w3.alloc (.cells #[.int .i64 x.kd,.int .i64 x.fr,.int .i64 x.to,.string ⟨x.tx.toArray⟩,.slice x.A x.n x.c,.slice x.B x.m x.d,.bool true,.int .i64 pp,.int .i64 0] 125)).alloc (.cells #[.string ⟨y.tx.toArray⟩] 9)):=below2 w3 _ _
                    have hk5:VKept (w2.heap.size+1) w3.heap.size ((w3.alloc (.cells #[.int .i64 x.kd,.int .i64 x.fr,.int .i64 x.to,.string ⟨x.tx.toArray⟩,.slice x.A x.n x.c,.slice x.B x.m x.d,.bool true,.int .i64 pp,.int .i64 0] 125)).alloc (.cells #[.string ⟨y.tx.toArray⟩] 9)) pv x:=fun u hu=>hk3 u (fun b h1 h2=>(hu b (by simp at h1;omega) h2).trans (hb5.block b h2))
                    have H5:=hid (And.intro A5 (And.intro OP5 (And.intro hk5 hb5.size)))
                    have NEW:=hid (name_rd (w3.alloc (.cells #[.int .i64 x.kd,.int .i64 x.fr,.int .i64 x.to,.string ⟨x.tx.toArray⟩,.slice x.A x.n x.c,.slice x.B x.m x.d,.bool true,.int .i64 pp,.int .i64 0] 125)) y.tx (w3.heap.size+1) (by simp))
                    clear hk3 hb3 A3 A4 A5 OQ3 OP5 hk5 hb5))
               | (at_builtin
                  clear tokN
                  go_must (
                    refine row_append (K:=namK) _ rfl (.tmp 103) (.tmp 107) rfl (W.heap.size+2) (.slice B m0 d) ns rfl (HM.out▸H5.out.1.nam) _ 1 1 [y.tx] rfl NEW.out (by have:=HL.out;omega) H5.out.1.big ?_
                    intro v5 w5 hr5 hg5 hat5
                    rw[← HM.out] at hg5 hat5
                    obtain ⟨B',d',hv5,A6⟩:=H5.out.1.pushN hr5 hg5 hat5
                    obtain ⟨m6,hm6⟩:∃ m6,(ns++[y.tx]).length=m6:=⟨_,rfl⟩
                    rw[hm6] at hv5
                    subst hv5
                    have hz5:=hg5.size
                    simp at hz5
                    have hwn:∀ g,(Value.slice B ns.length d).ownBlock=some g→g<wr.heap.size:=fun g e=>(HA.out.nam.low e).2
                    have hbg:=HA.out.big
                    have O5:Own w5 w3.heap.size 125 #[.int .i64 x.kd,.int .i64 x.fr,.int .i64 x.to,.string ⟨x.tx.toArray⟩,.slice x.A x.n x.c,.slice x.B x.m x.d,.bool true,.int .i64 pp,.int .i64 0]:=(hg5.block _ H5.out.2.1.inside (fun e=>by have:=hwn _ e.symm;omega)).trans H5.out.2.1
                    have O6:Own (w5.setCell ⟨W.heap.size+1,5,none⟩ (.slice B' m6 d')) w3.heap.size 125 #[.int .i64 x.kd,.int .i64 x.fr,.int .i64 x.to,.string ⟨x.tx.toArray⟩,.slice x.A x.n x.c,.slice x.B x.m x.d,.bool true,.int .i64 pp,.int .i64 0]:=Own.past O5 (by show w3.heap.size≠W.heap.size+1;omega) _
                    have OV5:Own w5 (W.heap.size+1) 29 #[.int .i64 5,.int .i64 fr,.int .i64 0,.string ⟨#[]⟩,.slice A ts.length c,.slice B ns.length d] :=
                      (hg5.block _ H5.out.1.val.inside (fun e=>by have:=(H5.out.1.nam.low e.symm).1;omega)).trans H5.out.1.val
                    have y5:=OV5.at 5
                    have z5:=OV5.free 5
                    simp at y5
                    obtain ⟨x0,x1,x2,x3,x4,x5,x6⟩:=six_of O6
                    have q6:=O6.at 6
                    have q7:=O6.at 7
                    have q8:=O6.at 8
                    simp at q6 q7 q8
                    have hk6:VKept (w2.heap.size+1) w3.heap.size (w5.setCell ⟨W.heap.size+1,5,none⟩ (.slice B' m6 d')) pv x :=
                      H5.out.2.2.1.move (fun b h1 h2=>(Below.heap_setCell w5 _ _ b (by show b≠W.heap.size+1;omega)).trans (hg5.block b (by have:=H5.out.2.2.2;omega) (fun e=>by have:=hwn _ e.symm;omega)))
                    have hown6:∀ g,(Value.slice B' m6 d').ownBlock=some g→g<w2.heap.size+1∨w3.heap.size≤g:=fun g e=>by
                      rcases hat5 with q|q
                      ·rw[q] at e;have:=hwn _ e;omega
                      ·rw[q] at e;have:=Option.some.inj e;simp at this;omega
                    obtain ⟨t0,t1,t2,t3,t4,t5,t6,t7,t8⟩:=A6.facts HN.out hm6
                    have A7:=A6.stay (below1 _ (.cells #[.int .i64 x.kd,.int .i64 x.fr,.int .i64 x.to,.string ⟨x.tx.toArray⟩,.slice x.A x.n x.c,.slice x.B x.m x.d] 29))
                    have O7:=O6.over (.cells #[.int .i64 x.kd,.int .i64 x.fr,.int .i64 x.to,.string ⟨x.tx.toArray⟩,.slice x.A x.n x.c,.slice x.B x.m x.d] 29)
                    have hk7:=hk6.move (w':=(w5.setCell ⟨W.heap.size+1,5,none⟩ (.slice B' m6 d')).alloc (.cells #[.int .i64 x.kd,.int .i64 x.fr,.int .i64 x.to,.string ⟨x.tx.toArray⟩,.slice x.A x.n x.c,.slice x.B x.m x.d] 29)) (fun b _ h2=>Below.heap_alloc _ _ b (by have:=O6.inside;omega))
                    have hz7:w3.heap.size<((w5.setCell ⟨W.heap.size+1,5,none⟩ (.slice B' m6 d')).alloc (.cells #[.int .i64 x.kd,.int .i64 x.fr,.int .i64 x.to,.string ⟨x.tx.toArray⟩,.slice x.A x.n x.c,.slice x.B x.m x.d] 29)).heap.size:=O7.inside
                    have H7:=hid (And.intro A7 (And.intro O7 (And.intro hk7 (And.intro hown6 hz7))))
                    have NEW7:=hid (item_rd (w5.setCell ⟨W.heap.size+1,5,none⟩ (.slice B' m6 d')) x w5.heap.size (by simp[World.setCell]))
                    have HN6:=hid hm6
                    clear hr5 hg5 hat5 A6 O5 O6 OV5 hwn hm6 hk6 hown6 A7 O7 hk7 hz7))
               | (at_builtin
                  go_must (
                    refine row_append (K:=valK) _ rfl (.tmp 111) (.tmp 114) rfl (W.heap.size+2) (.slice A n0 c) xs rfl (HN.out▸H7.out.1.row) _ 1 1 [x] rfl NEW7.out (by have:=H7.out.1.len;have:=HL.out;omega) H7.out.1.big ?_
                    intro v7 w7 hr7 hg7 hat7
                    rw[← HN.out] at hg7 hat7
                    have hwn:∀ g,(Value.slice A ts.length c).ownBlock=some g→g<wr.heap.size:=fun g e=>(HA.out.row.low e).2
                    have hbg:=HA.out.big
                    obtain ⟨A',c',hv7,A8⟩:=H7.out.1.push H7.out.2.2.1 (by omega) (Nat.le_of_lt H7.out.2.2.2.2) (fun g e=>by have:=hwn _ e;omega) (HN6.out.symm▸H7.out.2.2.2.1) hr7 hg7 hat7
                    obtain ⟨n8,hn8⟩:∃ n8,(ts++[pv]).length=n8:=⟨_,rfl⟩
                    rw[hn8] at hv7
                    subst hv7
                    have hz8:=hg7.size
                    simp[World.setCell] at hz8
                    have O8:Own (w7.setCell ⟨W.heap.size+1,4,none⟩ (.slice A' n8 c')) w3.heap.size 125 #[.int .i64 x.kd,.int .i64 x.fr,.int .i64 x.to,.string ⟨x.tx.toArray⟩,.slice x.A x.n x.c,.slice x.B x.m x.d,.bool true,.int .i64 pp,.int .i64 0] :=
                      Own.past (show Own w7 _ _ _ from (hg7.block _ H7.out.2.1.inside (fun e=>by have:=hwn _ e.symm;omega)).trans H7.out.2.1) (by show w3.heap.size≠W.heap.size+1;omega) _
                    have OV7:Own w7 (W.heap.size+1) 29 #[.int .i64 5,.int .i64 fr,.int .i64 0,.string ⟨#[]⟩,.slice A ts.length c,.slice B' (ns++[y.tx]).length d'] :=
                      (hg7.block _ H7.out.1.val.inside (fun e=>by have:=(H7.out.1.row.low e.symm).1;omega)).trans H7.out.1.val
                    rw[HN6.out] at OV7
                    have y4:=OV7.at 4
                    have z4:=OV7.free 4
                    have r7:=O8.at 7
                    have r8:=O8.at 8
                    simp at y4 r7 r8
                    obtain ⟨s0,s1,s2,s3,s4,s5,s6,s7,s8⟩:=A8.facts hn8 HN6.out
                    have HA8:=hid A8
                    have HN8:=hid hn8
                    clear hr7 hg7 hat7 A8 O8 OV7 hwn hn8))
               | (go_at_call 59;clear tokC;refine (HK3.out _).mono ?_;rintro e w' ⟨rfl,rfl⟩)
               | (go_at_call 59;refine (HK4.out _).mono ?_;rintro e w' ⟨rfl,rfl⟩))
             go_roundw
             case rel=>exact ⟨k4,f,ts++[pv],ns++[y.tx],xs++[x],A',c',B',d',hb42,(by have:=HFK.out;omega),(by have:=HLK.out;simp;omega),(by go_num),(by rw[HY.out];exact HP.out),HA8.out⟩
             case measure=>simp[intOf];omega
            ·have e44 : ¬ (s[k3].toNat:Int)=44:=fun e=>h44 ((u8_int10 (by decide)).2 e)
             rw[if_pos h44] at hP
             have HP2:=hid hP
             clear hP h125 h44
             go_wp2_with (first
               | (go_at_call 90
                  go_must (
                    refine (HQ.out _).mono ?_
                    rintro e w2 ⟨y,rfl,hky,hb2⟩
                    have hz2:=hb2.size
                    have A2:=(HA.out.stay hb2).stay (below1 w2 (.cells #[.int .i64 y.kd,.int .i64 y.fr,.int .i64 y.to,.string ⟨y.tx.toArray⟩,.slice y.A y.n y.c,.slice y.B y.m y.d,.bool qb,.int .i64 qp,.int .i64 0] 125))
                    have hyt:y.tx=qv.tx:=vis_tx (hky w2 (fun _ _ _=>rfl))
                    have HY:=hid hyt
                    obtain ⟨v0,v1,v2,v3,v4,v5,u2,u4,u5⟩:=A2.facts HN.out HM.out
                    have H2:=hid A2
                    clear A2 hky hb2 hyt))
               | (go_at_call 59;clear tokA;refine (HK1.out _).mono ?_;rintro e w' ⟨rfl,rfl⟩)
               | (go_at_call 59;clear tokB;refine (HK2.out _).mono ?_;rintro e w' ⟨rfl,rfl⟩)
               | (go_at_call 60
                  go_must (
                    refine (HSM.out _).mono ?_
                    rintro e w3 ⟨x,rfl,hk3,hb3⟩
                    have hz3:=hb3.size
                    simp at hz3
                    have A3:=H2.out.stay hb3
                    have A4:=A3.stay (below1 w3 (.cells #[.int .i64 x.kd,.int .i64 x.fr,.int .i64 x.to,.string ⟨x.tx.toArray⟩,.slice x.A x.n x.c,.slice x.B x.m x.d,.bool true,.int .i64 pp,.int .i64 0] 125))
                    obtain ⟨v0',v1',v2',v3',v4',v5',u2',u4',u5'⟩:=A4.facts HN.out HM.out
                    have OQ3:Own w3 w2.heap.size 125 #[.int .i64 y.kd,.int .i64 y.fr,.int .i64 y.to,.string ⟨y.tx.toArray⟩,.slice y.A y.n y.c,.slice y.B y.m y.d,.bool qb,.int .i64 qp,.int .i64 0]:=(Own.fresh w2 125 #[.int .i64 y.kd,.int .i64 y.fr,.int .i64 y.to,.string ⟨y.tx.toArray⟩,.slice y.A y.n y.c,.slice y.B y.m y.d,.bool qb,.int .i64 qp,.int .i64 0]).stay hb3 (by simp)
                    have q3:=(OQ3.over (.cells #[.int .i64 x.kd,.int .i64 x.fr,.int .i64 x.to,.string ⟨x.tx.toArray⟩,.slice x.A x.n x.c,.slice x.B x.m x.d,.bool true,.int .i64 pp,.int .i64 0] 125)).at 3
                    simp at q3
                    have A5:=A4.stay (below1 _ (.cells #[.string ⟨y.tx.toArray⟩] 9))
                    have OP5:=(Own.fresh w3 125 #[.int .i64 x.kd,.int .i64 x.fr,.int .i64 x.to,.string ⟨x.tx.toArray⟩,.slice x.A x.n x.c,.slice x.B x.m x.d,.bool true,.int .i64 pp,.int .i64 0]).over (.cells #[.string ⟨y.tx.toArray⟩] 9)
                    have hb5:Below w3.heap.size w3 ((w3.alloc (.cells #[.int .i64 x.kd,.int .i64 x.fr,.int .i64 x.to,.string ⟨x.tx.toArray⟩,.slice x.A x.n x.c,.slice x.B x.m x.d,.bool true,.int .i64 pp,.int .i64 0] 125)).alloc (.cells #[.string ⟨y.tx.toArray⟩] 9)):=below2 w3 _ _
                    have hk5:VKept (w2.heap.size+1) w3.heap.size ((w3.alloc (.cells #[.int .i64 x.kd,.int .i64 x.fr,.int .i64 x.to,.string ⟨x.tx.toArray⟩,.slice x.A x.n x.c,.slice x.B x.m x.d,.bool true,.int .i64 pp,.int .i64 0] 125)).alloc (.cells #[.string ⟨y.tx.toArray⟩] 9)) pv x:=fun u hu=>hk3 u (fun b h1 h2=>(hu b (by simp at h1;omega) h2).trans (hb5.block b h2))
                    have H5:=hid (And.intro A5 (And.intro OP5 (And.intro hk5 hb5.size)))
                    have NEW:=hid (name_rd (w3.alloc (.cells #[.int .i64 x.kd,.int .i64 x.fr,.int .i64 x.to,.string ⟨x.tx.toArray⟩,.slice x.A x.n x.c,.slice x.B x.m x.d,.bool true,.int .i64 pp,.int .i64 0] 125)) y.tx (w3.heap.size+1) (by simp))
                    clear hk3 hb3 A3 A4 A5 OQ3 OP5 hk5 hb5))
               | (at_builtin
                  clear tokN
                  go_must (
                    refine row_append (K:=namK) _ rfl (.tmp 103) (.tmp 107) rfl (W.heap.size+2) (.slice B m0 d) ns rfl (HM.out▸H5.out.1.nam) _ 1 1 [y.tx] rfl NEW.out (by have:=HL.out;omega) H5.out.1.big ?_
                    intro v5 w5 hr5 hg5 hat5
                    rw[← HM.out] at hg5 hat5
                    obtain ⟨B',d',hv5,A6⟩:=H5.out.1.pushN hr5 hg5 hat5
                    obtain ⟨m6,hm6⟩:∃ m6,(ns++[y.tx]).length=m6:=⟨_,rfl⟩
                    rw[hm6] at hv5
                    subst hv5
                    have hz5:=hg5.size
                    simp at hz5
                    have hwn:∀ g,(Value.slice B ns.length d).ownBlock=some g→g<wr.heap.size:=fun g e=>(HA.out.nam.low e).2
                    have hbg:=HA.out.big
                    have O5:Own w5 w3.heap.size 125 #[.int .i64 x.kd,.int .i64 x.fr,.int .i64 x.to,.string ⟨x.tx.toArray⟩,.slice x.A x.n x.c,.slice x.B x.m x.d,.bool true,.int .i64 pp,.int .i64 0]:=(hg5.block _ H5.out.2.1.inside (fun e=>by have:=hwn _ e.symm;omega)).trans H5.out.2.1
                    have O6:Own (w5.setCell ⟨W.heap.size+1,5,none⟩ (.slice B' m6 d')) w3.heap.size 125 #[.int .i64 x.kd,.int .i64 x.fr,.int .i64 x.to,.string ⟨x.tx.toArray⟩,.slice x.A x.n x.c,.slice x.B x.m x.d,.bool true,.int .i64 pp,.int .i64 0]:=Own.past O5 (by show w3.heap.size≠W.heap.size+1;omega) _
                    have OV5:Own w5 (W.heap.size+1) 29 #[.int .i64 5,.int .i64 fr,.int .i64 0,.string ⟨#[]⟩,.slice A ts.length c,.slice B ns.length d] :=
                      (hg5.block _ H5.out.1.val.inside (fun e=>by have:=(H5.out.1.nam.low e.symm).1;omega)).trans H5.out.1.val
                    have y5:=OV5.at 5
                    have z5:=OV5.free 5
                    simp at y5
                    obtain ⟨x0,x1,x2,x3,x4,x5,x6⟩:=six_of O6
                    have q6:=O6.at 6
                    have q7:=O6.at 7
                    have q8:=O6.at 8
                    simp at q6 q7 q8
                    have hk6:VKept (w2.heap.size+1) w3.heap.size (w5.setCell ⟨W.heap.size+1,5,none⟩ (.slice B' m6 d')) pv x :=
                      H5.out.2.2.1.move (fun b h1 h2=>(Below.heap_setCell w5 _ _ b (by show b≠W.heap.size+1;omega)).trans (hg5.block b (by have:=H5.out.2.2.2;omega) (fun e=>by have:=hwn _ e.symm;omega)))
                    have hown6:∀ g,(Value.slice B' m6 d').ownBlock=some g→g<w2.heap.size+1∨w3.heap.size≤g:=fun g e=>by
                      rcases hat5 with q|q
                      ·rw[q] at e;have:=hwn _ e;omega
                      ·rw[q] at e;have:=Option.some.inj e;simp at this;omega
                    obtain ⟨t0,t1,t2,t3,t4,t5,t6,t7,t8⟩:=A6.facts HN.out hm6
                    have A7:=A6.stay (below1 _ (.cells #[.int .i64 x.kd,.int .i64 x.fr,.int .i64 x.to,.string ⟨x.tx.toArray⟩,.slice x.A x.n x.c,.slice x.B x.m x.d] 29))
                    have O7:=O6.over (.cells #[.int .i64 x.kd,.int .i64 x.fr,.int .i64 x.to,.string ⟨x.tx.toArray⟩,.slice x.A x.n x.c,.slice x.B x.m x.d] 29)
                    have hk7:=hk6.move (w':=(w5.setCell ⟨W.heap.size+1,5,none⟩ (.slice B' m6 d')).alloc (.cells #[.int .i64 x.kd,.int .i64 x.fr,.int .i64 x.to,.string ⟨x.tx.toArray⟩,.slice x.A x.n x.c,.slice x.B x.m x.d] 29)) (fun b _ h2=>Below.heap_alloc _ _ b (by have:=O6.inside;omega))
                    have hz7:w3.heap.size<((w5.setCell ⟨W.heap.size+1,5,none⟩ (.slice B' m6 d')).alloc (.cells #[.int .i64 x.kd,.int .i64 x.fr,.int .i64 x.to,.string ⟨x.tx.toArray⟩,.slice x.A x.n x.c,.slice x.B x.m x.d] 29)).heap.size:=O7.inside
                    have H7:=hid (And.intro A7 (And.intro O7 (And.intro hk7 (And.intro hown6 hz7))))
                    have NEW7:=hid (item_rd (w5.setCell ⟨W.heap.size+1,5,none⟩ (.slice B' m6 d')) x w5.heap.size (by simp[World.setCell]))
                    have HN6:=hid hm6
                    clear hr5 hg5 hat5 A6 O5 O6 OV5 hwn hm6 hk6 hown6 A7 O7 hk7 hz7))
               | (at_builtin
                  go_must (
                    refine row_append (K:=valK) _ rfl (.tmp 111) (.tmp 114) rfl (W.heap.size+2) (.slice A n0 c) xs rfl (HN.out▸H7.out.1.row) _ 1 1 [x] rfl NEW7.out (by have:=H7.out.1.len;have:=HL.out;omega) H7.out.1.big ?_
                    intro v7 w7 hr7 hg7 hat7
                    rw[← HN.out] at hg7 hat7
                    have hwn:∀ g,(Value.slice A ts.length c).ownBlock=some g→g<wr.heap.size:=fun g e=>(HA.out.row.low e).2
                    have hbg:=HA.out.big
                    obtain ⟨A',c',hv7,A8⟩:=H7.out.1.push H7.out.2.2.1 (by omega) (Nat.le_of_lt H7.out.2.2.2.2) (fun g e=>by have:=hwn _ e;omega) (HN6.out.symm▸H7.out.2.2.2.1) hr7 hg7 hat7
                    obtain ⟨n8,hn8⟩:∃ n8,(ts++[pv]).length=n8:=⟨_,rfl⟩
                    rw[hn8] at hv7
                    subst hv7
                    have hz8:=hg7.size
                    simp[World.setCell] at hz8
                    have O8:Own (w7.setCell ⟨W.heap.size+1,4,none⟩ (.slice A' n8 c')) w3.heap.size 125 #[.int .i64 x.kd,.int .i64 x.fr,.int .i64 x.to,.string ⟨x.tx.toArray⟩,.slice x.A x.n x.c,.slice x.B x.m x.d,.bool true,.int .i64 pp,.int .i64 0] :=
                      Own.past (show Own w7 _ _ _ from (hg7.block _ H7.out.2.1.inside (fun e=>by have:=hwn _ e.symm;omega)).trans H7.out.2.1) (by show w3.heap.size≠W.heap.size+1;omega) _
                    have OV7:Own w7 (W.heap.size+1) 29 #[.int .i64 5,.int .i64 fr,.int .i64 0,.string ⟨#[]⟩,.slice A ts.length c,.slice B' (ns++[y.tx]).length d'] :=
                      (hg7.block _ H7.out.1.val.inside (fun e=>by have:=(H7.out.1.row.low e.symm).1;omega)).trans H7.out.1.val
                    rw[HN6.out] at OV7
                    have y4:=OV7.at 4
                    have z4:=OV7.free 4
                    have r7:=O8.at 7
                    have r8:=O8.at 8
                    simp at y4 r7 r8
                    obtain ⟨s0,s1,s2,s3,s4,s5,s6,s7,s8⟩:=A8.facts hn8 HN6.out
                    have HA8:=hid A8
                    have HN8:=hid hn8
                    clear hr7 hg7 hat7 A8 O8 OV7 hwn hn8))
               | (go_at_call 59;clear tokC;refine (HK3.out _).mono ?_;rintro e w' ⟨rfl,rfl⟩)
               | (go_at_call 113
                  go_must (
                    refine (rbroken_any 5 fr 0 ⟨#[]⟩ A' n8 c' B' m6 d' (8) (k3) _).mono ?_
                    rintro e w9 ⟨rfl,hb9⟩
                    obtain ⟨o4,hO,hT,hV⟩:=HA8.out.broke HN8.out HN6.out hb9 (8) (k3)
                    obtain ⟨p0,p1,p2,p3,p4,p5,p6,p7,p8,f0,f1,f2,f3,f4,f5,f6,f7,f8⟩:=nine_facts o4
                    unfold put9 at hO hT hV
                    have HO:=hid hO
                    have HT:=hid hT
                    have HV:=hid hV
                    clear hO hT hV o4)))
             refine bodyPost_ret (results_cell_row rfl _ _ W.heap.size _ _ (0,0) _ rfl HO.out Tryz.underlying125 rfl part_size) rfl ?_
             rw[← HP2.out,← HY.out]
             exact ⟨_,rfl,HV.out,HT.out⟩
          ·rw [if_pos (show s.data.toList.length≤k3 by rw[hsl];omega)] at hP
           have hge:s.size≤k3:=by omega
           have HP2:=hid hP
           clear hP
           go_wp2_with (first
             | (go_at_call 90
                go_must (
                  refine (HQ.out _).mono ?_
                  rintro e w2 ⟨y,rfl,hky,hb2⟩
                  have hz2:=hb2.size
                  have A2:=(HA.out.stay hb2).stay (below1 w2 (.cells #[.int .i64 y.kd,.int .i64 y.fr,.int .i64 y.to,.string ⟨y.tx.toArray⟩,.slice y.A y.n y.c,.slice y.B y.m y.d,.bool qb,.int .i64 qp,.int .i64 0] 125))
                  have hyt:y.tx=qv.tx:=vis_tx (hky w2 (fun _ _ _=>rfl))
                  have HY:=hid hyt
                  obtain ⟨v0,v1,v2,v3,v4,v5,u2,u4,u5⟩:=A2.facts HN.out HM.out
                  have H2:=hid A2
                  clear A2 hky hb2 hyt))
             | (go_at_call 59;clear tokA;refine (HK1.out _).mono ?_;rintro e w' ⟨rfl,rfl⟩)
             | (go_at_call 59;clear tokB;refine (HK2.out _).mono ?_;rintro e w' ⟨rfl,rfl⟩)
             | (go_at_call 60
                go_must (
                  refine (HSM.out _).mono ?_
                  rintro e w3 ⟨x,rfl,hk3,hb3⟩
                  have hz3:=hb3.size
                  simp at hz3
                  have A3:=H2.out.stay hb3
                  have A4:=A3.stay (below1 w3 (.cells #[.int .i64 x.kd,.int .i64 x.fr,.int .i64 x.to,.string ⟨x.tx.toArray⟩,.slice x.A x.n x.c,.slice x.B x.m x.d,.bool true,.int .i64 pp,.int .i64 0] 125))
                  obtain ⟨v0',v1',v2',v3',v4',v5',u2',u4',u5'⟩:=A4.facts HN.out HM.out
                  have OQ3:Own w3 w2.heap.size 125 #[.int .i64 y.kd,.int .i64 y.fr,.int .i64 y.to,.string ⟨y.tx.toArray⟩,.slice y.A y.n y.c,.slice y.B y.m y.d,.bool qb,.int .i64 qp,.int .i64 0]:=(Own.fresh w2 125 #[.int .i64 y.kd,.int .i64 y.fr,.int .i64 y.to,.string ⟨y.tx.toArray⟩,.slice y.A y.n y.c,.slice y.B y.m y.d,.bool qb,.int .i64 qp,.int .i64 0]).stay hb3 (by simp)
                  have q3:=(OQ3.over (.cells #[.int .i64 x.kd,.int .i64 x.fr,.int .i64 x.to,.string ⟨x.tx.toArray⟩,.slice x.A x.n x.c,.slice x.B x.m x.d,.bool true,.int .i64 pp,.int .i64 0] 125)).at 3
                  simp at q3
                  have A5:=A4.stay (below1 _ (.cells #[.string ⟨y.tx.toArray⟩] 9))
                  have OP5:=(Own.fresh w3 125 #[.int .i64 x.kd,.int .i64 x.fr,.int .i64 x.to,.string ⟨x.tx.toArray⟩,.slice x.A x.n x.c,.slice x.B x.m x.d,.bool true,.int .i64 pp,.int .i64 0]).over (.cells #[.string ⟨y.tx.toArray⟩] 9)
                  have hb5:Below w3.heap.size w3 ((w3.alloc (.cells #[.int .i64 x.kd,.int .i64 x.fr,.int .i64 x.to,.string ⟨x.tx.toArray⟩,.slice x.A x.n x.c,.slice x.B x.m x.d,.bool true,.int .i64 pp,.int .i64 0] 125)).alloc (.cells #[.string ⟨y.tx.toArray⟩] 9)):=below2 w3 _ _
                  have hk5:VKept (w2.heap.size+1) w3.heap.size ((w3.alloc (.cells #[.int .i64 x.kd,.int .i64 x.fr,.int .i64 x.to,.string ⟨x.tx.toArray⟩,.slice x.A x.n x.c,.slice x.B x.m x.d,.bool true,.int .i64 pp,.int .i64 0] 125)).alloc (.cells #[.string ⟨y.tx.toArray⟩] 9)) pv x:=fun u hu=>hk3 u (fun b h1 h2=>(hu b (by simp at h1;omega) h2).trans (hb5.block b h2))
                  have H5:=hid (And.intro A5 (And.intro OP5 (And.intro hk5 hb5.size)))
                  have NEW:=hid (name_rd (w3.alloc (.cells #[.int .i64 x.kd,.int .i64 x.fr,.int .i64 x.to,.string ⟨x.tx.toArray⟩,.slice x.A x.n x.c,.slice x.B x.m x.d,.bool true,.int .i64 pp,.int .i64 0] 125)) y.tx (w3.heap.size+1) (by simp))
                  clear hk3 hb3 A3 A4 A5 OQ3 OP5 hk5 hb5))
             | (at_builtin
                clear tokN
                go_must (
                  refine row_append (K:=namK) _ rfl (.tmp 103) (.tmp 107) rfl (W.heap.size+2) (.slice B m0 d) ns rfl (HM.out▸H5.out.1.nam) _ 1 1 [y.tx] rfl NEW.out (by have:=HL.out;omega) H5.out.1.big ?_
                  intro v5 w5 hr5 hg5 hat5
                  rw[← HM.out] at hg5 hat5
                  obtain ⟨B',d',hv5,A6⟩:=H5.out.1.pushN hr5 hg5 hat5
                  obtain ⟨m6,hm6⟩:∃ m6,(ns++[y.tx]).length=m6:=⟨_,rfl⟩
                  rw[hm6] at hv5
                  subst hv5
                  have hz5:=hg5.size
                  simp at hz5
                  have hwn:∀ g,(Value.slice B ns.length d).ownBlock=some g→g<wr.heap.size:=fun g e=>(HA.out.nam.low e).2
                  have hbg:=HA.out.big
                  have O5:Own w5 w3.heap.size 125 #[.int .i64 x.kd,.int .i64 x.fr,.int .i64 x.to,.string ⟨x.tx.toArray⟩,.slice x.A x.n x.c,.slice x.B x.m x.d,.bool true,.int .i64 pp,.int .i64 0]:=(hg5.block _ H5.out.2.1.inside (fun e=>by have:=hwn _ e.symm;omega)).trans H5.out.2.1
                  have O6:Own (w5.setCell ⟨W.heap.size+1,5,none⟩ (.slice B' m6 d')) w3.heap.size 125 #[.int .i64 x.kd,.int .i64 x.fr,.int .i64 x.to,.string ⟨x.tx.toArray⟩,.slice x.A x.n x.c,.slice x.B x.m x.d,.bool true,.int .i64 pp,.int .i64 0]:=Own.past O5 (by show w3.heap.size≠W.heap.size+1;omega) _
                  have OV5:Own w5 (W.heap.size+1) 29 #[.int .i64 5,.int .i64 fr,.int .i64 0,.string ⟨#[]⟩,.slice A ts.length c,.slice B ns.length d] :=
                    (hg5.block _ H5.out.1.val.inside (fun e=>by have:=(H5.out.1.nam.low e.symm).1;omega)).trans H5.out.1.val
                  have y5:=OV5.at 5
                  have z5:=OV5.free 5
                  simp at y5
                  obtain ⟨x0,x1,x2,x3,x4,x5,x6⟩:=six_of O6
                  have q6:=O6.at 6
                  have q7:=O6.at 7
                  have q8:=O6.at 8
                  simp at q6 q7 q8
                  have hk6:VKept (w2.heap.size+1) w3.heap.size (w5.setCell ⟨W.heap.size+1,5,none⟩ (.slice B' m6 d')) pv x :=
                    H5.out.2.2.1.move (fun b h1 h2=>(Below.heap_setCell w5 _ _ b (by show b≠W.heap.size+1;omega)).trans (hg5.block b (by have:=H5.out.2.2.2;omega) (fun e=>by have:=hwn _ e.symm;omega)))
                  have hown6:∀ g,(Value.slice B' m6 d').ownBlock=some g→g<w2.heap.size+1∨w3.heap.size≤g:=fun g e=>by
                    rcases hat5 with q|q
                    ·rw[q] at e;have:=hwn _ e;omega
                    ·rw[q] at e;have:=Option.some.inj e;simp at this;omega
                  obtain ⟨t0,t1,t2,t3,t4,t5,t6,t7,t8⟩:=A6.facts HN.out hm6
                  have A7:=A6.stay (below1 _ (.cells #[.int .i64 x.kd,.int .i64 x.fr,.int .i64 x.to,.string ⟨x.tx.toArray⟩,.slice x.A x.n x.c,.slice x.B x.m x.d] 29))
                  have O7:=O6.over (.cells #[.int .i64 x.kd,.int .i64 x.fr,.int .i64 x.to,.string ⟨x.tx.toArray⟩,.slice x.A x.n x.c,.slice x.B x.m x.d] 29)
                  have hk7:=hk6.move (w':=(w5.setCell ⟨W.heap.size+1,5,none⟩ (.slice B' m6 d')).alloc (.cells #[.int .i64 x.kd,.int .i64 x.fr,.int .i64 x.to,.string ⟨x.tx.toArray⟩,.slice x.A x.n x.c,.slice x.B x.m x.d] 29)) (fun b _ h2=>Below.heap_alloc _ _ b (by have:=O6.inside;omega))
                  have hz7:w3.heap.size<((w5.setCell ⟨W.heap.size+1,5,none⟩ (.slice B' m6 d')).alloc (.cells #[.int .i64 x.kd,.int .i64 x.fr,.int .i64 x.to,.string ⟨x.tx.toArray⟩,.slice x.A x.n x.c,.slice x.B x.m x.d] 29)).heap.size:=O7.inside
                  have H7:=hid (And.intro A7 (And.intro O7 (And.intro hk7 (And.intro hown6 hz7))))
                  have NEW7:=hid (item_rd (w5.setCell ⟨W.heap.size+1,5,none⟩ (.slice B' m6 d')) x w5.heap.size (by simp[World.setCell]))
                  have HN6:=hid hm6
                  clear hr5 hg5 hat5 A6 O5 O6 OV5 hwn hm6 hk6 hown6 A7 O7 hk7 hz7))
             | (at_builtin
                go_must (
                  refine row_append (K:=valK) _ rfl (.tmp 111) (.tmp 114) rfl (W.heap.size+2) (.slice A n0 c) xs rfl (HN.out▸H7.out.1.row) _ 1 1 [x] rfl NEW7.out (by have:=H7.out.1.len;have:=HL.out;omega) H7.out.1.big ?_
                  intro v7 w7 hr7 hg7 hat7
                  rw[← HN.out] at hg7 hat7
                  have hwn:∀ g,(Value.slice A ts.length c).ownBlock=some g→g<wr.heap.size:=fun g e=>(HA.out.row.low e).2
                  have hbg:=HA.out.big
                  obtain ⟨A',c',hv7,A8⟩:=H7.out.1.push H7.out.2.2.1 (by omega) (Nat.le_of_lt H7.out.2.2.2.2) (fun g e=>by have:=hwn _ e;omega) (HN6.out.symm▸H7.out.2.2.2.1) hr7 hg7 hat7
                  obtain ⟨n8,hn8⟩:∃ n8,(ts++[pv]).length=n8:=⟨_,rfl⟩
                  rw[hn8] at hv7
                  subst hv7
                  have hz8:=hg7.size
                  simp[World.setCell] at hz8
                  have O8:Own (w7.setCell ⟨W.heap.size+1,4,none⟩ (.slice A' n8 c')) w3.heap.size 125 #[.int .i64 x.kd,.int .i64 x.fr,.int .i64 x.to,.string ⟨x.tx.toArray⟩,.slice x.A x.n x.c,.slice x.B x.m x.d,.bool true,.int .i64 pp,.int .i64 0] :=
                    Own.past (show Own w7 _ _ _ from (hg7.block _ H7.out.2.1.inside (fun e=>by have:=hwn _ e.symm;omega)).trans H7.out.2.1) (by show w3.heap.size≠W.heap.size+1;omega) _
                  have OV7:Own w7 (W.heap.size+1) 29 #[.int .i64 5,.int .i64 fr,.int .i64 0,.string ⟨#[]⟩,.slice A ts.length c,.slice B' (ns++[y.tx]).length d'] :=
                    (hg7.block _ H7.out.1.val.inside (fun e=>by have:=(H7.out.1.row.low e.symm).1;omega)).trans H7.out.1.val
                  rw[HN6.out] at OV7
                  have y4:=OV7.at 4
                  have z4:=OV7.free 4
                  have r7:=O8.at 7
                  have r8:=O8.at 8
                  simp at y4 r7 r8
                  obtain ⟨s0,s1,s2,s3,s4,s5,s6,s7,s8⟩:=A8.facts hn8 HN6.out
                  have HA8:=hid A8
                  have HN8:=hid hn8
                  clear hr7 hg7 hat7 A8 O8 OV7 hwn hn8))
             | (go_at_call 59;clear tokC;refine (HK3.out _).mono ?_;rintro e w' ⟨rfl,rfl⟩)
             | (go_at_call 113
                go_must (
                  refine (rbroken_any 5 fr 0 ⟨#[]⟩ A' n8 c' B' m6 d' (10) (s.size) _).mono ?_
                  rintro e w9 ⟨rfl,hb9⟩
                  obtain ⟨o4,hO,hT,hV⟩:=HA8.out.broke HN8.out HN6.out hb9 (10) (s.size)
                  obtain ⟨p0,p1,p2,p3,p4,p5,p6,p7,p8,f0,f1,f2,f3,f4,f5,f6,f7,f8⟩:=nine_facts o4
                  unfold put9 at hO hT hV
                  have HO:=hid hO
                  have HT:=hid hT
                  have HV:=hid hV
                  clear hO hT hV o4)))
           refine bodyPost_ret (results_cell_row rfl _ _ W.heap.size _ _ (0,0) _ rfl HO.out Tryz.underlying125 rfl part_size) rfl ?_
           rw[← HP2.out,← HY.out]
           exact ⟨_,rfl,HV.out,HT.out⟩
         ·rw [if_pos hpf] at hP
          clear hp0
          cases pb
          ·rw [if_neg (by decide),if_neg (by decide)] at hP
           have HP:=hid hP
           clear hP
           go_wp2_with (first
             | (go_at_call 90
                go_must (
                  refine (HQ.out _).mono ?_
                  rintro e w2 ⟨y,rfl,hky,hb2⟩
                  have hz2:=hb2.size
                  have A2:=(HA.out.stay hb2).stay (below1 w2 (.cells #[.int .i64 y.kd,.int .i64 y.fr,.int .i64 y.to,.string ⟨y.tx.toArray⟩,.slice y.A y.n y.c,.slice y.B y.m y.d,.bool qb,.int .i64 qp,.int .i64 0] 125))
                  have hyt:y.tx=qv.tx:=vis_tx (hky w2 (fun _ _ _=>rfl))
                  have HY:=hid hyt
                  obtain ⟨v0,v1,v2,v3,v4,v5,u2,u4,u5⟩:=A2.facts HN.out HM.out
                  have H2:=hid A2
                  clear A2 hky hb2 hyt))
             | (go_at_call 59;clear tokA;refine (HK1.out _).mono ?_;rintro e w' ⟨rfl,rfl⟩)
             | (go_at_call 59;clear tokB;refine (HK2.out _).mono ?_;rintro e w' ⟨rfl,rfl⟩)
             | (go_at_call 60
                go_must (
                  refine (HSM.out _).mono ?_
                  rintro e w3 ⟨x,rfl,hk3,hb3⟩
                  have hz3:=hb3.size
                  simp at hz3
                  have A3:=H2.out.stay hb3
                  have A4:=A3.stay (below1 w3 (.cells #[.int .i64 x.kd,.int .i64 x.fr,.int .i64 x.to,.string ⟨x.tx.toArray⟩,.slice x.A x.n x.c,.slice x.B x.m x.d,.bool false,.int .i64 pp,.int .i64 pf] 125))
                  obtain ⟨v0',v1',v2',v3',v4',v5',u2',u4',u5'⟩:=A4.facts HN.out HM.out
                  clear hk3 hb3 A3))
             | (go_at_call 113
                go_must (
                  refine (rbroken_any 5 fr 0 ⟨#[]⟩ A n0 c B m0 d (pf) (pp) _).mono ?_
                  rintro e w9 ⟨rfl,hb9⟩
                  obtain ⟨o4,hO,hT,hV⟩:=A4.broke HN.out HM.out hb9 (pf) (pp)
                  obtain ⟨p0,p1,p2,p3,p4,p5,p6,p7,p8,f0,f1,f2,f3,f4,f5,f6,f7,f8⟩:=nine_facts o4
                  unfold put9 at hO hT hV
                  have HO:=hid hO
                  have HT:=hid hT
                  have HV:=hid hV
                  clear hO hT hV o4)))
           refine bodyPost_ret (results_cell_row rfl _ _ W.heap.size _ _ (0,0) _ rfl HO.out Tryz.underlying125 rfl part_size) rfl ?_
           rw[← HP.out]
           exact ⟨_,rfl,HV.out,HT.out⟩
          ·rw [if_pos rfl,if_pos rfl] at hP
           have HP2:=hid hP
           clear hP
           go_wp2_with (first
             | (go_at_call 90
                go_must (
                  refine (HQ.out _).mono ?_
                  rintro e w2 ⟨y,rfl,hky,hb2⟩
                  have hz2:=hb2.size
                  have A2:=(HA.out.stay hb2).stay (below1 w2 (.cells #[.int .i64 y.kd,.int .i64 y.fr,.int .i64 y.to,.string ⟨y.tx.toArray⟩,.slice y.A y.n y.c,.slice y.B y.m y.d,.bool qb,.int .i64 qp,.int .i64 0] 125))
                  have hyt:y.tx=qv.tx:=vis_tx (hky w2 (fun _ _ _=>rfl))
                  have HY:=hid hyt
                  obtain ⟨v0,v1,v2,v3,v4,v5,u2,u4,u5⟩:=A2.facts HN.out HM.out
                  have H2:=hid A2
                  clear A2 hky hb2 hyt))
             | (go_at_call 59;clear tokA;refine (HK1.out _).mono ?_;rintro e w' ⟨rfl,rfl⟩)
             | (go_at_call 59;clear tokB;refine (HK2.out _).mono ?_;rintro e w' ⟨rfl,rfl⟩)
             | (go_at_call 60
                go_must (
                  refine (HSM.out _).mono ?_
                  rintro e w3 ⟨x,rfl,hk3,hb3⟩
                  have hz3:=hb3.size
                  simp at hz3
                  have A3:=H2.out.stay hb3
                  have A4:=A3.stay (below1 w3 (.cells #[.int .i64 x.kd,.int .i64 x.fr,.int .i64 x.to,.string ⟨x.tx.toArray⟩,.slice x.A x.n x.c,.slice x.B x.m x.d,.bool true,.int .i64 pp,.int .i64 pf] 125))
                  obtain ⟨v0',v1',v2',v3',v4',v5',u2',u4',u5'⟩:=A4.facts HN.out HM.out
                  have OQ3:Own w3 w2.heap.size 125 #[.int .i64 y.kd,.int .i64 y.fr,.int .i64 y.to,.string ⟨y.tx.toArray⟩,.slice y.A y.n y.c,.slice y.B y.m y.d,.bool qb,.int .i64 qp,.int .i64 0]:=(Own.fresh w2 125 #[.int .i64 y.kd,.int .i64 y.fr,.int .i64 y.to,.string ⟨y.tx.toArray⟩,.slice y.A y.n y.c,.slice y.B y.m y.d,.bool qb,.int .i64 qp,.int .i64 0]).stay hb3 (by simp)
                  have q3:=(OQ3.over (.cells #[.int .i64 x.kd,.int .i64 x.fr,.int .i64 x.to,.string ⟨x.tx.toArray⟩,.slice x.A x.n x.c,.slice x.B x.m x.d,.bool true,.int .i64 pp,.int .i64 pf] 125)).at 3
                  simp at q3
                  have A5:=A4.stay (below1 _ (.cells #[.string ⟨y.tx.toArray⟩] 9))
                  have OP5:=(Own.fresh w3 125 #[.int .i64 x.kd,.int .i64 x.fr,.int .i64 x.to,.string ⟨x.tx.toArray⟩,.slice x.A x.n x.c,.slice x.B x.m x.d,.bool true,.int .i64 pp,.int .i64 pf]).over (.cells #[.string ⟨y.tx.toArray⟩] 9)
                  have hb5:Below w3.heap.size w3 ((w3.alloc (.cells #[.int .i64 x.kd,.int .i64 x.fr,.int .i64 x.to,.string ⟨x.tx.toArray⟩,.slice x.A x.n x.c,.slice x.B x.m x.d,.bool true,.int .i64 pp,.int .i64 pf] 125)).alloc (.cells #[.string ⟨y.tx.toArray⟩] 9)):=below2 w3 _ _
                  have hk5:VKept (w2.heap.size+1) w3.heap.size ((w3.alloc (.cells #[.int .i64 x.kd,.int .i64 x.fr,.int .i64 x.to,.string ⟨x.tx.toArray⟩,.slice x.A x.n x.c,.slice x.B x.m x.d,.bool true,.int .i64 pp,.int .i64 pf] 125)).alloc (.cells #[.string ⟨y.tx.toArray⟩] 9)) pv x:=fun u hu=>hk3 u (fun b h1 h2=>(hu b (by simp at h1;omega) h2).trans (hb5.block b h2))
                  have H5:=hid (And.intro A5 (And.intro OP5 (And.intro hk5 hb5.size)))
                  have NEW:=hid (name_rd (w3.alloc (.cells #[.int .i64 x.kd,.int .i64 x.fr,.int .i64 x.to,.string ⟨x.tx.toArray⟩,.slice x.A x.n x.c,.slice x.B x.m x.d,.bool true,.int .i64 pp,.int .i64 pf] 125)) y.tx (w3.heap.size+1) (by simp))
                  clear hk3 hb3 A3 A4 A5 OQ3 OP5 hk5 hb5))
             | (at_builtin
                clear tokN
                go_must (
                  refine row_append (K:=namK) _ rfl (.tmp 103) (.tmp 107) rfl (W.heap.size+2) (.slice B m0 d) ns rfl (HM.out▸H5.out.1.nam) _ 1 1 [y.tx] rfl NEW.out (by have:=HL.out;omega) H5.out.1.big ?_
                  intro v5 w5 hr5 hg5 hat5
                  rw[← HM.out] at hg5 hat5
                  obtain ⟨B',d',hv5,A6⟩:=H5.out.1.pushN hr5 hg5 hat5
                  obtain ⟨m6,hm6⟩:∃ m6,(ns++[y.tx]).length=m6:=⟨_,rfl⟩
                  rw[hm6] at hv5
                  subst hv5
                  have hz5:=hg5.size
                  simp at hz5
                  have hwn:∀ g,(Value.slice B ns.length d).ownBlock=some g→g<wr.heap.size:=fun g e=>(HA.out.nam.low e).2
                  have hbg:=HA.out.big
                  have O5:Own w5 w3.heap.size 125 #[.int .i64 x.kd,.int .i64 x.fr,.int .i64 x.to,.string ⟨x.tx.toArray⟩,.slice x.A x.n x.c,.slice x.B x.m x.d,.bool true,.int .i64 pp,.int .i64 pf]:=(hg5.block _ H5.out.2.1.inside (fun e=>by have:=hwn _ e.symm;omega)).trans H5.out.2.1
                  have O6:Own (w5.setCell ⟨W.heap.size+1,5,none⟩ (.slice B' m6 d')) w3.heap.size 125 #[.int .i64 x.kd,.int .i64 x.fr,.int .i64 x.to,.string ⟨x.tx.toArray⟩,.slice x.A x.n x.c,.slice x.B x.m x.d,.bool true,.int .i64 pp,.int .i64 pf]:=Own.past O5 (by show w3.heap.size≠W.heap.size+1;omega) _
                  have OV5:Own w5 (W.heap.size+1) 29 #[.int .i64 5,.int .i64 fr,.int .i64 0,.string ⟨#[]⟩,.slice A ts.length c,.slice B ns.length d] :=
                    (hg5.block _ H5.out.1.val.inside (fun e=>by have:=(H5.out.1.nam.low e.symm).1;omega)).trans H5.out.1.val
                  have y5:=OV5.at 5
                  have z5:=OV5.free 5
                  simp at y5
                  obtain ⟨x0,x1,x2,x3,x4,x5,x6⟩:=six_of O6
                  have q6:=O6.at 6
                  have q7:=O6.at 7
                  have q8:=O6.at 8
                  simp at q6 q7 q8
                  have hk6:VKept (w2.heap.size+1) w3.heap.size (w5.setCell ⟨W.heap.size+1,5,none⟩ (.slice B' m6 d')) pv x :=
                    H5.out.2.2.1.move (fun b h1 h2=>(Below.heap_setCell w5 _ _ b (by show b≠W.heap.size+1;omega)).trans (hg5.block b (by have:=H5.out.2.2.2;omega) (fun e=>by have:=hwn _ e.symm;omega)))
                  have hown6:∀ g,(Value.slice B' m6 d').ownBlock=some g→g<w2.heap.size+1∨w3.heap.size≤g:=fun g e=>by
                    rcases hat5 with q|q
                    ·rw[q] at e;have:=hwn _ e;omega
                    ·rw[q] at e;have:=Option.some.inj e;simp at this;omega
                  obtain ⟨t0,t1,t2,t3,t4,t5,t6,t7,t8⟩:=A6.facts HN.out hm6
                  have A7:=A6.stay (below1 _ (.cells #[.int .i64 x.kd,.int .i64 x.fr,.int .i64 x.to,.string ⟨x.tx.toArray⟩,.slice x.A x.n x.c,.slice x.B x.m x.d] 29))
                  have O7:=O6.over (.cells #[.int .i64 x.kd,.int .i64 x.fr,.int .i64 x.to,.string ⟨x.tx.toArray⟩,.slice x.A x.n x.c,.slice x.B x.m x.d] 29)
                  have hk7:=hk6.move (w':=(w5.setCell ⟨W.heap.size+1,5,none⟩ (.slice B' m6 d')).alloc (.cells #[.int .i64 x.kd,.int .i64 x.fr,.int .i64 x.to,.string ⟨x.tx.toArray⟩,.slice x.A x.n x.c,.slice x.B x.m x.d] 29)) (fun b _ h2=>Below.heap_alloc _ _ b (by have:=O6.inside;omega))
                  have hz7:w3.heap.size<((w5.setCell ⟨W.heap.size+1,5,none⟩ (.slice B' m6 d')).alloc (.cells #[.int .i64 x.kd,.int .i64 x.fr,.int .i64 x.to,.string ⟨x.tx.toArray⟩,.slice x.A x.n x.c,.slice x.B x.m x.d] 29)).heap.size:=O7.inside
                  have H7:=hid (And.intro A7 (And.intro O7 (And.intro hk7 (And.intro hown6 hz7))))
                  have NEW7:=hid (item_rd (w5.setCell ⟨W.heap.size+1,5,none⟩ (.slice B' m6 d')) x w5.heap.size (by simp[World.setCell]))
                  have HN6:=hid hm6
                  clear hr5 hg5 hat5 A6 O5 O6 OV5 hwn hm6 hk6 hown6 A7 O7 hk7 hz7))
             | (at_builtin
                go_must (
                  refine row_append (K:=valK) _ rfl (.tmp 111) (.tmp 114) rfl (W.heap.size+2) (.slice A n0 c) xs rfl (HN.out▸H7.out.1.row) _ 1 1 [x] rfl NEW7.out (by have:=H7.out.1.len;have:=HL.out;omega) H7.out.1.big ?_
                  intro v7 w7 hr7 hg7 hat7
                  rw[← HN.out] at hg7 hat7
                  have hwn:∀ g,(Value.slice A ts.length c).ownBlock=some g→g<wr.heap.size:=fun g e=>(HA.out.row.low e).2
                  have hbg:=HA.out.big
                  obtain ⟨A',c',hv7,A8⟩:=H7.out.1.push H7.out.2.2.1 (by omega) (Nat.le_of_lt H7.out.2.2.2.2) (fun g e=>by have:=hwn _ e;omega) (HN6.out.symm▸H7.out.2.2.2.1) hr7 hg7 hat7
                  obtain ⟨n8,hn8⟩:∃ n8,(ts++[pv]).length=n8:=⟨_,rfl⟩
                  rw[hn8] at hv7
                  subst hv7
                  have hz8:=hg7.size
                  simp[World.setCell] at hz8
                  have O8:Own (w7.setCell ⟨W.heap.size+1,4,none⟩ (.slice A' n8 c')) w3.heap.size 125 #[.int .i64 x.kd,.int .i64 x.fr,.int .i64 x.to,.string ⟨x.tx.toArray⟩,.slice x.A x.n x.c,.slice x.B x.m x.d,.bool true,.int .i64 pp,.int .i64 pf] :=
                    Own.past (show Own w7 _ _ _ from (hg7.block _ H7.out.2.1.inside (fun e=>by have:=hwn _ e.symm;omega)).trans H7.out.2.1) (by show w3.heap.size≠W.heap.size+1;omega) _
                  have OV7:Own w7 (W.heap.size+1) 29 #[.int .i64 5,.int .i64 fr,.int .i64 0,.string ⟨#[]⟩,.slice A ts.length c,.slice B' (ns++[y.tx]).length d'] :=
                    (hg7.block _ H7.out.1.val.inside (fun e=>by have:=(H7.out.1.row.low e.symm).1;omega)).trans H7.out.1.val
                  rw[HN6.out] at OV7
                  have y4:=OV7.at 4
                  have z4:=OV7.free 4
                  have r7:=O8.at 7
                  have r8:=O8.at 8
                  simp at y4 r7 r8
                  obtain ⟨s0,s1,s2,s3,s4,s5,s6,s7,s8⟩:=A8.facts hn8 HN6.out
                  have HA8:=hid A8
                  have HN8:=hid hn8
                  clear hr7 hg7 hat7 A8 O8 OV7 hwn hn8))
             | (go_at_call 113
                go_must (
                  refine (rbroken_any 5 fr 0 ⟨#[]⟩ A' n8 c' B' m6 d' (pf) (pp) _).mono ?_
                  rintro e w9 ⟨rfl,hb9⟩
                  obtain ⟨o4,hO,hT,hV⟩:=HA8.out.broke HN8.out HN6.out hb9 (pf) (pp)
                  obtain ⟨p0,p1,p2,p3,p4,p5,p6,p7,p8,f0,f1,f2,f3,f4,f5,f6,f7,f8⟩:=nine_facts o4
                  unfold put9 at hO hT hV
                  have HO:=hid hO
                  have HT:=hid hT
                  have HV:=hid hV
                  clear hO hT hV o4)))
           refine bodyPost_ret (results_cell_row rfl _ _ W.heap.size _ _ (0,0) _ rfl HO.out Tryz.underlying125 rfl part_size) rfl ?_
           rw[← HP2.out,← HY.out]
           exact ⟨_,rfl,HV.out,HT.out⟩
        ·rw [if_pos (show s.data.toList.length≤k2 by rw[hsl];omega)] at hnm
         rw[objGo_no s.data.toList _ fr f k ts ns _ _ hnm] at hP
         have hge:s.size≤k2:=by omega
         have HP:=hid hP
         have HA:=hid hA
         clear hP hA hn0 hm0 hnm
         go_wp2_with (first
           | (go_at_call 90
              go_must (
                refine (HQ.out _).mono ?_
                rintro e w2 ⟨y,rfl,hky,hb2⟩
                have hz2:=hb2.size
                have A2:=(HA.out.stay hb2).stay (below1 w2 (.cells #[.int .i64 y.kd,.int .i64 y.fr,.int .i64 y.to,.string ⟨y.tx.toArray⟩,.slice y.A y.n y.c,.slice y.B y.m y.d,.bool qb,.int .i64 qp,.int .i64 0] 125))
                have hyt:y.tx=qv.tx:=vis_tx (hky w2 (fun _ _ _=>rfl))
                have HY:=hid hyt
                obtain ⟨v0,v1,v2,v3,v4,v5,u2,u4,u5⟩:=A2.facts HN.out HM.out
                have H2:=hid A2
                clear A2 hky hb2 hyt))
           | (go_at_call 59;clear tokA;refine (HK1.out _).mono ?_;rintro e w' ⟨rfl,rfl⟩)
           | (go_at_call 59;clear tokB;refine (HK2.out _).mono ?_;rintro e w' ⟨rfl,rfl⟩)
           | (go_at_call 113
              go_must (
                refine (rbroken_any 5 fr 0 ⟨#[]⟩ A n0 c B m0 d (10) (s.size) _).mono ?_
                rintro e w9 ⟨rfl,hb9⟩
                obtain ⟨o4,hO,hT,hV⟩:=H2.out.broke HN.out HM.out hb9 (10) (s.size)
                obtain ⟨p0,p1,p2,p3,p4,p5,p6,p7,p8,f0,f1,f2,f3,f4,f5,f6,f7,f8⟩:=nine_facts o4
                unfold put9 at hO hT hV
                have HO:=hid hO
                have HT:=hid hT
                have HV:=hid hV
                clear hO hT hV o4)))
         refine bodyPost_ret (results_cell_row rfl _ _ W.heap.size _ _ (0,0) _ rfl HO.out Tryz.underlying125 rfl part_size) rfl ?_
         rw[← HP.out]
         exact ⟨_,rfl,HV.out,HT.out⟩
       ·have e58:¬ (s[k1].toNat:Int)=58:=fun e=>h58 ((u8_int10 (by decide)).2 e)
        rw[if_pos h58] at hnm
        rw[objGo_no s.data.toList _ fr f k ts ns _ _ hnm] at hP
        have HP:=hid hP
        have HA:=hid hA
        clear hP hA hn0 hm0 hnm h58 h34
        go_wp2_with (first
          | (go_at_call 90
             go_must (
               refine (HQ.out _).mono ?_
               rintro e w2 ⟨y,rfl,hky,hb2⟩
               have hz2:=hb2.size
               have A2:=(HA.out.stay hb2).stay (below1 w2 (.cells #[.int .i64 y.kd,.int .i64 y.fr,.int .i64 y.to,.string ⟨y.tx.toArray⟩,.slice y.A y.n y.c,.slice y.B y.m y.d,.bool qb,.int .i64 qp,.int .i64 0] 125))
               have hyt:y.tx=qv.tx:=vis_tx (hky w2 (fun _ _ _=>rfl))
               have HY:=hid hyt
               obtain ⟨v0,v1,v2,v3,v4,v5,u2,u4,u5⟩:=A2.facts HN.out HM.out
               have H2:=hid A2
               clear A2 hky hb2 hyt))
          | (go_at_call 59;clear tokA;refine (HK1.out _).mono ?_;rintro e w' ⟨rfl,rfl⟩)
          | (go_at_call 113
             go_must (
               refine (rbroken_any 5 fr 0 ⟨#[]⟩ A n0 c B m0 d (8) (k1) _).mono ?_
               rintro e w9 ⟨rfl,hb9⟩
               obtain ⟨o4,hO,hT,hV⟩:=H2.out.broke HN.out HM.out hb9 (8) (k1)
               obtain ⟨p0,p1,p2,p3,p4,p5,p6,p7,p8,f0,f1,f2,f3,f4,f5,f6,f7,f8⟩:=nine_facts o4
               unfold put9 at hO hT hV
               have HO:=hid hO
               have HT:=hid hT
               have HV:=hid hV
               clear hO hT hV o4)))
        refine bodyPost_ret (results_cell_row rfl _ _ W.heap.size _ _ (0,0) _ rfl HO.out Tryz.underlying125 rfl part_size) rfl ?_
        rw[← HP.out]
        exact ⟨_,rfl,HV.out,HT.out⟩
      ·rw [if_pos (show s.data.toList.length≤k1 by rw[hsl];omega)] at hnm
       rw[objGo_no s.data.toList _ fr f k ts ns _ _ hnm] at hP
       have hge:s.size≤k1:=by omega
       have HP:=hid hP
       have HA:=hid hA
       clear hP hA hn0 hm0 hnm h34
       go_wp2_with (first
         | (go_at_call 90
            go_must (
              refine (HQ.out _).mono ?_
              rintro e w2 ⟨y,rfl,hky,hb2⟩
              have hz2:=hb2.size
              have A2:=(HA.out.stay hb2).stay (below1 w2 (.cells #[.int .i64 y.kd,.int .i64 y.fr,.int .i64 y.to,.string ⟨y.tx.toArray⟩,.slice y.A y.n y.c,.slice y.B y.m y.d,.bool qb,.int .i64 qp,.int .i64 0] 125))
              have hyt:y.tx=qv.tx:=vis_tx (hky w2 (fun _ _ _=>rfl))
              have HY:=hid hyt
              obtain ⟨v0,v1,v2,v3,v4,v5,u2,u4,u5⟩:=A2.facts HN.out HM.out
              have H2:=hid A2
              clear A2 hky hb2 hyt))
         | (go_at_call 59;clear tokA;refine (HK1.out _).mono ?_;rintro e w' ⟨rfl,rfl⟩)
         | (go_at_call 113
            go_must (
              refine (rbroken_any 5 fr 0 ⟨#[]⟩ A n0 c B m0 d (10) (s.size) _).mono ?_
              rintro e w9 ⟨rfl,hb9⟩
              obtain ⟨o4,hO,hT,hV⟩:=H2.out.broke HN.out HM.out hb9 (10) (s.size)
              obtain ⟨p0,p1,p2,p3,p4,p5,p6,p7,p8,f0,f1,f2,f3,f4,f5,f6,f7,f8⟩:=nine_facts o4
              unfold put9 at hO hT hV
              have HO:=hid hO
              have HT:=hid hT
              have HV:=hid hV
              clear hO hT hV o4)))
       refine bodyPost_ret (results_cell_row rfl _ _ W.heap.size _ _ (0,0) _ rfl HO.out Tryz.underlying125 rfl part_size) rfl ?_
       rw[← HP.out]
       exact ⟨_,rfl,HV.out,HT.out⟩
     ·rw [if_pos hqf] at hnm
      rw[objGo_no s.data.toList _ fr f k ts ns _ _ hnm] at hP
      have HP:=hid hP
      have HA:=hid hA
      clear hP hA hn0 hm0 hnm hq0 h34
      go_wp2_with (first
        | (go_at_call 90
           go_must (
             refine (HQ.out _).mono ?_
             rintro e w2 ⟨y,rfl,hky,hb2⟩
             have hz2:=hb2.size
             have A2:=(HA.out.stay hb2).stay (below1 w2 (.cells #[.int .i64 y.kd,.int .i64 y.fr,.int .i64 y.to,.string ⟨y.tx.toArray⟩,.slice y.A y.n y.c,.slice y.B y.m y.d,.bool qb,.int .i64 qp,.int .i64 qf] 125))
             have hyt:y.tx=qv.tx:=vis_tx (hky w2 (fun _ _ _=>rfl))
             have HY:=hid hyt
             obtain ⟨v0,v1,v2,v3,v4,v5,u2,u4,u5⟩:=A2.facts HN.out HM.out
             have H2:=hid A2
             clear A2 hky hb2 hyt))
        | (go_at_call 113
           go_must (
             refine (rbroken_any 5 fr 0 ⟨#[]⟩ A n0 c B m0 d (qf) (qp) _).mono ?_
             rintro e w9 ⟨rfl,hb9⟩
             obtain ⟨o4,hO,hT,hV⟩:=H2.out.broke HN.out HM.out hb9 (qf) (qp)
             obtain ⟨p0,p1,p2,p3,p4,p5,p6,p7,p8,f0,f1,f2,f3,f4,f5,f6,f7,f8⟩:=nine_facts o4
             unfold put9 at hO hT hV
             have HO:=hid hO
             have HT:=hid hT
             have HV:=hid hV
             clear hO hT hV o4)))
      refine bodyPost_ret (results_cell_row rfl _ _ W.heap.size _ _ (0,0) _ rfl HO.out Tryz.underlying125 rfl part_size) rfl ?_
      rw[← HP.out]
      exact ⟨_,rfl,HV.out,HT.out⟩
    ·have e34:¬ (s[k].toNat:Int)=34:=fun e=>h34 ((u8_int10 (by decide)).2 e)
     rw[objGo_no s.data.toList _ fr f k ts ns _ _ (nameR_no s.data.toList k hlt (by rw[getD_at s k hlt];exact h34))] at hP
     have HP:=hid hP
     obtain ⟨v0,v1,v2,v3,v4,v5,u2,u4,u5⟩:=hA.facts hn0 hm0
     have HA:=hid hA
     clear hP hA hn0 hm0 h34
     go_wp2_with (first
       | (go_at_call 113
          go_must (
            refine (rbroken_any 5 fr 0 ⟨#[]⟩ A n0 c B m0 d (8) (k) _).mono ?_
            rintro e w9 ⟨rfl,hb9⟩
            obtain ⟨o4,hO,hT,hV⟩:=HA.out.broke HN.out HM.out hb9 (8) (k)
            obtain ⟨p0,p1,p2,p3,p4,p5,p6,p7,p8,f0,f1,f2,f3,f4,f5,f6,f7,f8⟩:=nine_facts o4
            unfold put9 at hO hT hV
            have HO:=hid hO
            have HT:=hid hT
            have HV:=hid hV
            clear hO hT hV o4)))
     refine bodyPost_ret (results_cell_row rfl _ _ W.heap.size _ _ (0,0) _ rfl HO.out Tryz.underlying125 rfl part_size) rfl ?_
     rw[← HP.out]
     exact ⟨_,rfl,HV.out,HT.out⟩
   ·rw [objGo_no s.data.toList _ fr f k ts ns _ _ (nameR_end s.data.toList k (by rw[hsl];omega))] at hP
    have HP:=hid hP
    obtain ⟨v0,v1,v2,v3,v4,v5,u2,u4,u5⟩:=hA.facts hn0 hm0
    have HA:=hid hA
    have hge:s.size≤k:=by omega
    clear hP hA hn0 hm0
    go_wp2_with (first
      | (go_at_call 113
         go_must (
           refine (rbroken_any 5 fr 0 ⟨#[]⟩ A n0 c B m0 d (10) (s.size) _).mono ?_
           rintro e w9 ⟨rfl,hb9⟩
           obtain ⟨o4,hO,hT,hV⟩:=HA.out.broke HN.out HM.out hb9 (10) (s.size)
           obtain ⟨p0,p1,p2,p3,p4,p5,p6,p7,p8,f0,f1,f2,f3,f4,f5,f6,f7,f8⟩:=nine_facts o4
           unfold put9 at hO hT hV
           have HO:=hid hO
           have HT:=hid hT
           have HV:=hid hV
           clear hO hT hV o4)))
    refine bodyPost_ret (results_cell_row rfl _ _ W.heap.size _ _ (0,0) _ rfl HO.out Tryz.underlying125 rfl part_size) rfl ?_
    rw[← HP.out]
    exact ⟨_,rfl,HV.out,HT.out⟩
theorem robj_any (s:ByteArray) (cl:Bool) (n k:Nat) (hs:s.size≤50000) (hn:n≤100000) (HSC:SomeC s cl n) (hk:k<s.size) (W:World) :
   Calls Tryz.prog 94 #[.string s,.int .i64 k,.int .i64 ((n:Int)+1),.bool cl] W fun e w'=>PartP W (objR s.data.toList (someR s.data.toList cl n) k) e w':=by
 have hsl:s.data.toList.length=s.size:=rfl
 obtain ⟨b,hb⟩:∃ b,blankR s.data.toList (k+1)=b:=⟨_,rfl⟩
 have hle:=blankR_le s.data.toList (k+1) hk
 rw[hb] at hle
 have hle2:b≤s.size:=hle.2
 unfold objR
 rw[hb,hsl]
 by_cases hlt:b<s.size
 ·rw [getD_at s b hlt]
  by_cases h93:s[b]=125
  ·rw[if_pos ⟨hlt,h93⟩]
   exact robj_empty s cl n k b hs hn hk hb hlt ((u8_int10 (by decide)).1 h93) W
  ·rw[if_neg (fun h=>h93 h.2)]
   exact robj_loop s cl n k b hs hn HSC hk hb hlt (fun e=>h93 ((u8_int10 (by decide)).2 e)) W _ rfl
 ·rw [if_neg (fun h=>hlt h.1)]
  have e:objGo s.data.toList (someR s.data.toList cl n) k (s.size+1-b) b [] []=brkR10 5 k [] [] 10 s.size:=by
    obtain ⟨g,hg⟩:∃ g,s.size+1-b=g+1:=⟨s.size-b,by omega⟩
    rw[hg,objGo_no _ _ _ _ _ _ _ _ _ (nameR_end s.data.toList b (by rw[hsl];omega))]
    rfl
  rw[e]
  exact robj_none s cl n k b hs hn hk hb hlt W
end
end Go.Proofs.YtnokhgfifbkflaaGreat
