/- Lemmas. -/
import Derived.Test.YtbpilcklglhloaaGreatDoorJ29
set_option maxRecDepth 100000
set_option maxHeartbeats 8000000
set_option linter.unusedVariables false
namespace Go.Proofs.YtbpilcklglhloaaGreatDoor
open Go.Lib (hid)
section
open Go.RowKit
def SomeC (s:ByteArray)(cl:Bool)(n:Nat):Prop:=∀ k:Nat,k<s.size → ∀ W:World,Calls Tryz.prog 30 #[.string s,.int .i64 k,.int .i64 n,.bool cl] W fun e w'=>PartP W (someR s.data.toList cl n k) e w'
theorem rblank_at (s:ByteArray) (hs:s.size≤50000) (k b:Nat) (i:Int) (hi:i=k) (hk:k≤s.size) (hb:blankR s.data.toList k=b) (w:World) :
   Calls Tryz.prog 29 #[.string s,.int .i64 i] w fun e w'=>e=.returned (.int .i64 b)∧w=w':=by
 subst hi hb
 exact rblankR_any s k hk (by omega) w
theorem item_rd (w:World) (x:V6) (g:Nat) (hg:g=w.heap.size):RdG valK (w.alloc (.cells #[.int .i64 x.kd,.int .i64 x.fr,.int .i64 x.to,.string ⟨x.tx.toArray⟩,.slice x.A x.n x.c,.slice x.B x.m x.d] 27)) (some ⟨g,0,none⟩) 1 [x]:=by
 subst hg
 exact (GRow.made (K:=valK) (base:=0) (l:=[x]) w _ rfl (show 1≤maxLen by decide) (Nat.zero_le _)).rd
theorem arrGo_end (l:List UInt8) (sm:Nat→PartR) (fr f k:Nat) (items:List Tree) (hk:l.length≤k):arrGo l sm fr (f+1) k items=brkR 4 fr items [] 10 l.length:=by
 show (if l.length≤k then _ else _)=_
 rw[if_pos hk]
theorem arrGo_step (l:List UInt8) (sm:Nat→PartR) (fr f k:Nat) (items:List Tree) (hk:k<l.length) (pv:Tree) (pb:Bool) (pp:Nat) (pf:Int) (hp:sm k=⟨pv,pb,pp,pf⟩) :
   arrGo l sm fr (f+1) k items=if pf≠0 then brkR 4 fr (if pb then items++[pv] else items) [] pf pp
     else if l.length≤blankR l pp then brkR 4 fr (if pb then items++[pv] else items) [] 10 l.length
     else if l.getD (blankR l pp) 0=93 then ⟨.mk 4 fr (blankR l pp+1) [] (if pb then items++[pv] else items) [],true,blankR l pp+1,0⟩
     else if l.getD (blankR l pp) 0≠44 then brkR 4 fr (if pb then items++[pv] else items) [] 8 (blankR l pp)
     else arrGo l sm fr f (blankR l (blankR l pp+1)) (if pb then items++[pv] else items):=by
 show (if l.length≤k then _ else _)=_
 rw[if_neg (by omega),hp]
def RelAr (s:ByteArray) (sm:Nat→PartR) (fr:Nat) (P:PartR) (W wr:World) (v:Value):Prop :=
 ∃ (k f:Nat) (ts:List Tree) (xs:List V6) (A:Option Addr) (c:Nat),k≤s.size∧s.size<f+k∧ts.length≤k∧v=.int .i64 k∧arrGo s.data.toList sm fr f k ts=P∧ArX W wr 4 fr A c none 0 ts [] xs
set_option maxHeartbeats 16000000 in
theorem rarr_empty (s:ByteArray) (cl:Bool) (n k b:Nat) (hs:s.size≤50000) (hn:n≤100000) (hk:k<s.size) (hb:blankR s.data.toList (k+1)=b) (hlt:b<s.size) (e0:(s[b].toNat:Int)=93) (W:World) :
   Calls Tryz.prog 50 #[.string s,.int .i64 k,.int .i64 ((n:Int)+1),.bool cl] W fun e w'=>PartP W ⟨.mk 4 k (b+1) [] [] [],true,b+1,0⟩ e w':=by
 have HK:=hid (fun w=>rblank_at s hs (k+1) b ((k:Int)+1) rfl hk hb w)
 clear hb
 go_enter Tryz.func50,Tryz.ntmps50
 go_wp2_with (
   go_at_call 29
   go_must (
     refine (HK.out _).mono ?_
     rintro e w1 ⟨rfl,hw1⟩
     have A0:ArX W w1 4 k none 0 none 0 [] [] []:=by rw[← hw1];exact ArX.start W 4 k
     clear hw1
     obtain ⟨v0,v1,v2,v3,v4,v5,u2,u4,u5⟩:=A0.facts rfl rfl
     obtain ⟨o4,hO,hT,hV⟩:=A0.well rfl rfl (b+1) ((b:Int)+1) ((b:Int)+1) rfl
     obtain ⟨p0,p1,p2,p3,p4,p5,p6,p7,p8,f0,f1,f2,f3,f4,f5,f6,f7,f8⟩:=nine_facts o4
     unfold put9 at hO hT hV
     have HO:=hid hO
     have HT:=hid hT
     have HV:=hid hV
     clear hO hT hV o4 A0))
 refine bodyPost_ret (results_cell_row rfl _ _ W.heap.size _ _ (0,0) _ rfl HO.out Tryz.underlying85 rfl part_size) rfl ?_
 exact ⟨_,rfl,HV.out,HT.out⟩
set_option maxHeartbeats 16000000 in
theorem rarr_none (s:ByteArray) (cl:Bool) (n k b:Nat) (hs:s.size≤50000) (hn:n≤100000) (hk:k<s.size) (hb:blankR s.data.toList (k+1)=b) (hlt:¬ b<s.size) (W:World) :
   Calls Tryz.prog 50 #[.string s,.int .i64 k,.int .i64 ((n:Int)+1),.bool cl] W fun e w'=>PartP W (brkR 4 k [] [] 10 s.size) e w':=by
 have HK:=hid (fun w=>rblank_at s hs (k+1) b ((k:Int)+1) rfl hk hb w)
 have HB:=hid (fun (kk f:Int) (w:World)=>rbroken_any 4 k 0 ⟨#[]⟩ none 0 0 none 0 0 kk f w)
 have hge:s.size≤b:=by omega
 clear hb
 go_enter Tryz.func50,Tryz.ntmps50
 go_wp2_with (
   go_at_call 29
   go_must (
     refine (HK.out _).mono ?_
     rintro e w1 ⟨rfl,hw1⟩
     have A0:ArX W w1 4 k none 0 none 0 [] [] []:=by rw[← hw1];exact ArX.start W 4 k
     clear hw1
     obtain ⟨v0,v1,v2,v3,v4,v5,u2,u4,u5⟩:=A0.facts rfl rfl))
 refine wp_loop_rounds 2 ?_
 rw[rounds_succ]
 go_wp2_with (
   go_at_call 69
   go_must (
     refine (HB.out 10 s.size _).mono ?_
     rintro e w9 ⟨rfl,hb9⟩
     obtain ⟨o4,hO,hT,hV⟩:=A0.broke rfl rfl hb9 10 s.size
     obtain ⟨p0,p1,p2,p3,p4,p5,p6,p7,p8,f0,f1,f2,f3,f4,f5,f6,f7,f8⟩:=nine_facts o4
     unfold put9 at hO hT hV
     have HO:=hid hO
     have HT:=hid hT
     have HV:=hid hV
     clear hO hT hV o4 hb9))
 refine bodyPost_ret (results_cell_row rfl _ _ W.heap.size _ _ (0,0) _ rfl HO.out Tryz.underlying85 rfl part_size) rfl ?_
 exact ⟨_,rfl,HV.out,HT.out⟩
set_option maxHeartbeats 16000000 in
theorem rarr_loop (s : ByteArray) (cl:Bool) (n fr b:Nat) (hs:s.size≤50000) (hn:n≤100000) (HSC:SomeC s cl n) (hk:fr<s.size) (hb:blankR s.data.toList (fr+1)=b) (hlt0:b<s.size) (e0:¬ (s[b].toNat:Int)=93) (W:World)
   (P:PartR) (hP:arrGo s.data.toList (someR s.data.toList cl n) fr (s.size+1-b) b []=P) :
   Calls Tryz.prog 50 #[.string s,.int .i64 fr,.int .i64 ((n:Int)+1),.bool cl] W fun e w'=>PartP W P e w':=by
 have hsl:s.data.toList.length=s.size:=rfl
 have HK:=hid (fun w=>rblank_at s hs (fr+1) b ((fr:Int)+1) rfl hk hb w)
 have HX:=hid hP
 have e0b:((s[b].toNat:Int)==93)=false:=beq_eq_false_iff_ne.2 e0
 clear hb hP e0
 go_enter Tryz.func50,Tryz.ntmps50
 go_wp2_with (
   go_at_call 29
   go_must (
     refine (HK.out _).mono ?_
     rintro e w1 ⟨rfl,hw1⟩
     have A0:ArX W w1 4 fr none 0 none 0 [] [] []:=by rw[← hw1];exact ArX.start W 4 fr
     clear hw1))
 go_loopw [10] (fun v wr=>RelAr s (someR s.data.toList cl n) fr P W wr v) (fun v _=>s.size-(intOf v).toNat)
 case atStart=>exact ⟨b,s.size+1-b,[],[],none,0,by omega,by omega,Nat.zero_le _,rfl,HX.out,A0⟩
 case round =>
   clear A0 HX HK
   obtain ⟨k,f,ts,xs,A,c,hks,hfk,hlen,rfl,hP,hA⟩:=hrel
   obtain ⟨f,rfl⟩:∃ g,f=g+1:=⟨f-1,by omega⟩
   obtain ⟨n0,hn0⟩:∃ n0,ts.length=n0:=⟨_,rfl⟩
   have HN:=hid hn0
   have HL:=hid (show ts.length≤50000 by omega)
   have HLK:=hid hlen
   have HFK:=hid hfk
   clear hlen hfk
   by_cases hlt:k<s.size
   ·obtain ⟨⟨pv, pb, pp,pf⟩,hp⟩:∃ p,someR s.data.toList cl n k=p:=⟨_,rfl⟩
    have hbd:=someR_bd s.data.toList cl n k hlt
    have HSM:=HSC k hlt
    rw[hp] at hbd HSM
    have hpp:pp≤s.size:=hbd.1
    have hp0:pf=0→k≤pp∧pb=true:=hbd.2
    rw[arrGo_step s.data.toList _ fr f k ts hlt pv pb pp pf hp] at hP
    have HSM:=hid HSM
    have HA:=hid hA
    clear hp hbd hA hn0
    by_cases hpf:pf=0
    ·obtain ⟨hkp, rfl⟩:=hp0 hpf
     subst hpf
     rw[if_neg (fun h=>h rfl),if_pos rfl] at hP
     obtain ⟨k2,hk2⟩:∃ k2,blankR s.data.toList pp=k2:=⟨_,rfl⟩
     have hbl:=blankR_le s.data.toList pp hpp
     have HK2:=hid (fun w=>rblank_at s hs pp k2 pp rfl hpp hk2 w)
     rw[hk2] at hP hbl
     have hbl2:k2≤s.size:=hbl.2
     have hbl1:=hbl.1
     clear hp0 hk2 hbl
     by_cases hl2:k2<s.size
     ·rw [if_neg (show ¬ s.data.toList.length≤k2 from by rw[hsl];omega),getD_at s k2 hl2] at hP
      by_cases h93:s[k2]=93
      ·have e93 : (s[k2].toNat:Int)=93:=(u8_int (by decide)).1 h93
       rw[if_pos h93] at hP
       have HP:=hid hP
       clear hP h93
       go_upto_region 17 with (first
         | (go_at_call 30
            go_must (
              refine (HSM.out _).mono ?_
              rintro e w3 ⟨x,rfl,hk3,hb3⟩
              have A3:=HA.out.stay hb3
              have hz3:=hb3.size
              have hb4:=below1 w3 (.cells #[.int .i64 x.kd,.int .i64 x.fr,.int .i64 x.to,.string ⟨x.tx.toArray⟩,.slice x.A x.n x.c,.slice x.B x.m x.d,.bool true,.int .i64 pp,.int .i64 0] 85)
              have A4:=A3.stay hb4
              obtain ⟨v0,v1,v2,v3,v4,v5,u2,u4,u5⟩:=A4.facts HN.out rfl
              have hb5:=hb4.trans ((below1 (w3.alloc (.cells #[.int .i64 x.kd,.int .i64 x.fr,.int .i64 x.to,.string ⟨x.tx.toArray⟩,.slice x.A x.n x.c,.slice x.B x.m x.d,.bool true,.int .i64 pp,.int .i64 0] 85)) (.cells #[.int .i64 x.kd,.int .i64 x.fr,.int .i64 x.to,.string ⟨x.tx.toArray⟩,.slice x.A x.n x.c,.slice x.B x.m x.d] 27)).mono hb4.size)
              have A5:=A3.stay hb5
              have OP:=(Own.fresh w3 85 #[.int .i64 x.kd,.int .i64 x.fr,.int .i64 x.to,.string ⟨x.tx.toArray⟩,.slice x.A x.n x.c,.slice x.B x.m x.d,.bool true,.int .i64 pp,.int .i64 0]).over (.cells #[.int .i64 x.kd,.int .i64 x.fr,.int .i64 x.to,.string ⟨x.tx.toArray⟩,.slice x.A x.n x.c,.slice x.B x.m x.d] 27)
              have hk5:VKept wr.heap.size w3.heap.size ((w3.alloc (.cells #[.int .i64 x.kd,.int .i64 x.fr,.int .i64 x.to,.string ⟨x.tx.toArray⟩,.slice x.A x.n x.c,.slice x.B x.m x.d,.bool true,.int .i64 pp,.int .i64 0] 85)).alloc (.cells #[.int .i64 x.kd,.int .i64 x.fr,.int .i64 x.to,.string ⟨x.tx.toArray⟩,.slice x.A x.n x.c,.slice x.B x.m x.d] 27)) pv x:=fun u hu=>hk3 u (fun b h1 h2=>(hu b h1 h2).trans (hb5.block b h2))
              have H5:=hid (And.intro A5 (And.intro OP (And.intro hk5 hb5.size)))
              have NEW:=hid (item_rd (w3.alloc (.cells #[.int .i64 x.kd,.int .i64 x.fr,.int .i64 x.to,.string ⟨x.tx.toArray⟩,.slice x.A x.n x.c,.slice x.B x.m x.d,.bool true,.int .i64 pp,.int .i64 0] 85)) x (w3.heap.size+1) (by simp))
              clear hk3 hb3 A3 A4 hb4 A5 OP hk5 hb5))
         | (at_builtin
            go_must (
              refine row_append (K:=valK) _ rfl (.tmp 52) (.tmp 55) rfl (W.heap.size+2) (.slice A n0 c) xs rfl (HN.out▸H5.out.1.row) _ 1 1 [x] rfl NEW.out (by have:=H5.out.1.len;have:=HL.out;omega) H5.out.1.big ?_
              intro v5 w5 hr5 hg5 hat5
              rw[← HN.out] at hg5 hat5
              obtain ⟨A',c',hv5,A6⟩:=H5.out.1.push H5.out.2.2.1 HA.out.big H5.out.2.2.2 (fun g e=>(HA.out.row.low e).2) (fun g e=>by simp[Value.ownBlock] at e) hr5 hg5 hat5
              obtain ⟨n6,hn6⟩:∃ n6,(ts++[pv]).length=n6:=⟨_,rfl⟩
              rw[hn6] at hv5
              subst hv5
              have hz5:=hg5.size
              simp at hz5
              have hwn:∀ g,(Value.slice A ts.length c).ownBlock=some g→g<wr.heap.size:=fun g e=>(HA.out.row.low e).2
              have O6:Own (w5.setCell ⟨W.heap.size+1,4,none⟩ (.slice A' n6 c')) w3.heap.size 85 #[.int .i64 x.kd,.int .i64 x.fr,.int .i64 x.to,.string ⟨x.tx.toArray⟩,.slice x.A x.n x.c,.slice x.B x.m x.d,.bool true,.int .i64 pp,.int .i64 0] :=
                Own.past (show Own w5 _ _ _ from (hg5.block _ H5.out.2.1.inside (fun e=>by have:=hwn _ e.symm;omega)).trans H5.out.2.1) (by show w3.heap.size≠W.heap.size+1;have:=HA.out.big;omega) _
              have OV5:Own w5 (W.heap.size+1) 27 #[.int .i64 4,.int .i64 fr,.int .i64 0,.string ⟨#[]⟩,.slice A ts.length c,.slice none 0 0] :=
                (hg5.block _ H5.out.1.val.inside (fun e=>by have:=(H5.out.1.row.low e.symm).1;omega)).trans H5.out.1.val
              have y4:=OV5.at 4
              have z4:=OV5.free 4
              have q7:=O6.at 7
              have q8:=O6.at 8
              simp at y4 q7 q8
              have y0:=OV5.at 0
              have y1:=OV5.at 1
              have y2:=OV5.at 2
              have y3:=OV5.at 3
              have y5:=OV5.at 5
              have z2:=OV5.free 2
              simp at y0 y1 y2 y3 y5
              have HA6:=hid A6
              have HN6:=hid hn6
              clear hr5 hg5 hat5 A6 O6 OV5 hwn hn6))
         | (go_at_call 29;refine (HK2.out _).mono ?_;rintro e w' ⟨rfl,rfl⟩))
       obtain ⟨o4,hO,hT,hV⟩:=HA6.out.well HN6.out rfl (k2+1) ((k2:Int)+1) ((k2:Int)+1) rfl
       obtain ⟨p0,p1,p2,p3,p4,p5,p6,p7,p8,f0,f1,f2,f3,f4,f5,f6,f7,f8⟩:=nine_facts o4
       unfold put9 at hO hT hV
       have HO:=hid hO
       have HT:=hid hT
       have HV:=hid hV
       clear hO hT hV o4
       go_wp2
       refine bodyPost_ret (results_cell_row rfl _ _ W.heap.size _ _ (0,0) _ rfl HO.out Tryz.underlying85 rfl part_size) rfl ?_
       rw[← HP.out]
       exact ⟨_,rfl,HV.out,HT.out⟩
      ·have e93 : ¬ (s[k2].toNat:Int)=93:=fun e=>h93 ((u8_int (by decide)).2 e)
       rw[if_neg h93] at hP
       by_cases h44:s[k2]=44
       ·have e44 : (s[k2].toNat:Int)=44:=(u8_int (by decide)).1 h44
        rw[if_neg (fun h=>h h44)] at hP
        obtain ⟨k3,hk3⟩:∃ k3,blankR s.data.toList (k2+1)=k3:=⟨_,rfl⟩
        have hbl3:=blankR_le s.data.toList (k2+1) hl2
        have HK3:=hid (fun w=>rblank_at s hs (k2+1) k3 ((k2:Int)+1) rfl hl2 hk3 w)
        rw[hk3] at hP hbl3
        have hb31:=hbl3.1
        have hb32:k3≤s.size:=hbl3.2
        have HP:=hid hP
        clear hP h93 h44 hk3 hbl3
        have tok:True:=trivial
        go_wp2_with (first
          | (go_at_call 30
             go_must (
               refine (HSM.out _).mono ?_
               rintro e w3 ⟨x,rfl,hk3,hb3⟩
               have A3:=HA.out.stay hb3
               have hz3:=hb3.size
               have hb4:=below1 w3 (.cells #[.int .i64 x.kd,.int .i64 x.fr,.int .i64 x.to,.string ⟨x.tx.toArray⟩,.slice x.A x.n x.c,.slice x.B x.m x.d,.bool true,.int .i64 pp,.int .i64 0] 85)
               have A4:=A3.stay hb4
               obtain ⟨v0,v1,v2,v3,v4,v5,u2,u4,u5⟩:=A4.facts HN.out rfl
               have hb5:=hb4.trans ((below1 (w3.alloc (.cells #[.int .i64 x.kd,.int .i64 x.fr,.int .i64 x.to,.string ⟨x.tx.toArray⟩,.slice x.A x.n x.c,.slice x.B x.m x.d,.bool true,.int .i64 pp,.int .i64 0] 85)) (.cells #[.int .i64 x.kd,.int .i64 x.fr,.int .i64 x.to,.string ⟨x.tx.toArray⟩,.slice x.A x.n x.c,.slice x.B x.m x.d] 27)).mono hb4.size)
               have A5:=A3.stay hb5
               have OP:=(Own.fresh w3 85 #[.int .i64 x.kd,.int .i64 x.fr,.int .i64 x.to,.string ⟨x.tx.toArray⟩,.slice x.A x.n x.c,.slice x.B x.m x.d,.bool true,.int .i64 pp,.int .i64 0]).over (.cells #[.int .i64 x.kd,.int .i64 x.fr,.int .i64 x.to,.string ⟨x.tx.toArray⟩,.slice x.A x.n x.c,.slice x.B x.m x.d] 27)
               have hk5:VKept wr.heap.size w3.heap.size ((w3.alloc (.cells #[.int .i64 x.kd,.int .i64 x.fr,.int .i64 x.to,.string ⟨x.tx.toArray⟩,.slice x.A x.n x.c,.slice x.B x.m x.d,.bool true,.int .i64 pp,.int .i64 0] 85)).alloc (.cells #[.int .i64 x.kd,.int .i64 x.fr,.int .i64 x.to,.string ⟨x.tx.toArray⟩,.slice x.A x.n x.c,.slice x.B x.m x.d] 27)) pv x:=fun u hu=>hk3 u (fun b h1 h2=>(hu b h1 h2).trans (hb5.block b h2))
               have H5:=hid (And.intro A5 (And.intro OP (And.intro hk5 hb5.size)))
               have NEW:=hid (item_rd (w3.alloc (.cells #[.int .i64 x.kd,.int .i64 x.fr,.int .i64 x.to,.string ⟨x.tx.toArray⟩,.slice x.A x.n x.c,.slice x.B x.m x.d,.bool true,.int .i64 pp,.int .i64 0] 85)) x (w3.heap.size+1) (by simp))
               clear hk3 hb3 A3 A4 hb4 A5 OP hk5 hb5))
          | (at_builtin
             go_must (
               refine row_append (K:=valK) _ rfl (.tmp 52) (.tmp 55) rfl (W.heap.size+2) (.slice A n0 c) xs rfl (HN.out▸H5.out.1.row) _ 1 1 [x] rfl NEW.out (by have:=H5.out.1.len;have:=HL.out;omega) H5.out.1.big ?_
               intro v5 w5 hr5 hg5 hat5
               rw[← HN.out] at hg5 hat5
               obtain ⟨A',c',hv5,A6⟩:=H5.out.1.push H5.out.2.2.1 HA.out.big H5.out.2.2.2 (fun g e=>(HA.out.row.low e).2) (fun g e=>by simp[Value.ownBlock] at e) hr5 hg5 hat5
               obtain ⟨n6,hn6⟩:∃ n6,(ts++[pv]).length=n6:=⟨_,rfl⟩
               rw[hn6] at hv5
               subst hv5
               have hz5:=hg5.size
               simp at hz5
               have hwn:∀ g,(Value.slice A ts.length c).ownBlock=some g→g<wr.heap.size:=fun g e=>(HA.out.row.low e).2
               have O6:Own (w5.setCell ⟨W.heap.size+1,4,none⟩ (.slice A' n6 c')) w3.heap.size 85 #[.int .i64 x.kd,.int .i64 x.fr,.int .i64 x.to,.string ⟨x.tx.toArray⟩,.slice x.A x.n x.c,.slice x.B x.m x.d,.bool true,.int .i64 pp,.int .i64 0] :=
                 Own.past (show Own w5 _ _ _ from (hg5.block _ H5.out.2.1.inside (fun e=>by have:=hwn _ e.symm;omega)).trans H5.out.2.1) (by show w3.heap.size≠W.heap.size+1;have:=HA.out.big;omega) _
               have OV5:Own w5 (W.heap.size+1) 27 #[.int .i64 4,.int .i64 fr,.int .i64 0,.string ⟨#[]⟩,.slice A ts.length c,.slice none 0 0] :=
                 (hg5.block _ H5.out.1.val.inside (fun e=>by have:=(H5.out.1.row.low e.symm).1;omega)).trans H5.out.1.val
               have y4:=OV5.at 4
               have z4:=OV5.free 4
               have q7:=O6.at 7
               have q8:=O6.at 8
               simp at y4 q7 q8
               obtain ⟨v0',v1',v2',v3',v4',v5',u2',u4',u5'⟩:=A6.facts hn6 rfl
               have HA6:=hid A6
               have HN6:=hid hn6
               clear hr5 hg5 hat5 A6 O6 OV5 hwn hn6))
          | (go_at_call 29;clear tok;refine (HK2.out _).mono ?_;rintro e w' ⟨rfl,rfl⟩)
          | (go_at_call 29;refine (HK3.out _).mono ?_;rintro e w' ⟨rfl,rfl⟩))
        go_roundw
        case rel=>exact ⟨k3,f,ts++[pv],xs++[x],A',c',hb32,(by have:=HFK.out;omega),(by have:=HLK.out;simp;omega),(by go_num),HP.out,HA6.out⟩
        case measure=>simp[intOf];omega
       ·have e44 : ¬ (s[k2].toNat:Int)=44:=fun e=>h44 ((u8_int (by decide)).2 e)
        rw[if_pos h44] at hP
        have HP:=hid hP
        clear hP h93 h44
        go_wp2_with (first
          | (go_at_call 30
             go_must (
               refine (HSM.out _).mono ?_
               rintro e w3 ⟨x,rfl,hk3,hb3⟩
               have A3:=HA.out.stay hb3
               have hz3:=hb3.size
               have hb4:=below1 w3 (.cells #[.int .i64 x.kd,.int .i64 x.fr,.int .i64 x.to,.string ⟨x.tx.toArray⟩,.slice x.A x.n x.c,.slice x.B x.m x.d,.bool true,.int .i64 pp,.int .i64 0] 85)
               have A4:=A3.stay hb4
               obtain ⟨v0,v1,v2,v3,v4,v5,u2,u4,u5⟩:=A4.facts HN.out rfl
               have hb5:=hb4.trans ((below1 (w3.alloc (.cells #[.int .i64 x.kd,.int .i64 x.fr,.int .i64 x.to,.string ⟨x.tx.toArray⟩,.slice x.A x.n x.c,.slice x.B x.m x.d,.bool true,.int .i64 pp,.int .i64 0] 85)) (.cells #[.int .i64 x.kd,.int .i64 x.fr,.int .i64 x.to,.string ⟨x.tx.toArray⟩,.slice x.A x.n x.c,.slice x.B x.m x.d] 27)).mono hb4.size)
               have A5:=A3.stay hb5
               have OP:=(Own.fresh w3 85 #[.int .i64 x.kd,.int .i64 x.fr,.int .i64 x.to,.string ⟨x.tx.toArray⟩,.slice x.A x.n x.c,.slice x.B x.m x.d,.bool true,.int .i64 pp,.int .i64 0]).over (.cells #[.int .i64 x.kd,.int .i64 x.fr,.int .i64 x.to,.string ⟨x.tx.toArray⟩,.slice x.A x.n x.c,.slice x.B x.m x.d] 27)
               have hk5:VKept wr.heap.size w3.heap.size ((w3.alloc (.cells #[.int .i64 x.kd,.int .i64 x.fr,.int .i64 x.to,.string ⟨x.tx.toArray⟩,.slice x.A x.n x.c,.slice x.B x.m x.d,.bool true,.int .i64 pp,.int .i64 0] 85)).alloc (.cells #[.int .i64 x.kd,.int .i64 x.fr,.int .i64 x.to,.string ⟨x.tx.toArray⟩,.slice x.A x.n x.c,.slice x.B x.m x.d] 27)) pv x:=fun u hu=>hk3 u (fun b h1 h2=>(hu b h1 h2).trans (hb5.block b h2))
               have H5:=hid (And.intro A5 (And.intro OP (And.intro hk5 hb5.size)))
               have NEW:=hid (item_rd (w3.alloc (.cells #[.int .i64 x.kd,.int .i64 x.fr,.int .i64 x.to,.string ⟨x.tx.toArray⟩,.slice x.A x.n x.c,.slice x.B x.m x.d,.bool true,.int .i64 pp,.int .i64 0] 85)) x (w3.heap.size+1) (by simp))
               clear hk3 hb3 A3 A4 hb4 A5 OP hk5 hb5))
          | (at_builtin
             go_must (
               refine row_append (K:=valK) _ rfl (.tmp 52) (.tmp 55) rfl (W.heap.size+2) (.slice A n0 c) xs rfl (HN.out▸H5.out.1.row) _ 1 1 [x] rfl NEW.out (by have:=H5.out.1.len;have:=HL.out;omega) H5.out.1.big ?_
               intro v5 w5 hr5 hg5 hat5
               rw[← HN.out] at hg5 hat5
               obtain ⟨A',c',hv5,A6⟩:=H5.out.1.push H5.out.2.2.1 HA.out.big H5.out.2.2.2 (fun g e=>(HA.out.row.low e).2) (fun g e=>by simp[Value.ownBlock] at e) hr5 hg5 hat5
               obtain ⟨n6,hn6⟩:∃ n6,(ts++[pv]).length=n6:=⟨_,rfl⟩
               rw[hn6] at hv5
               subst hv5
               have hz5:=hg5.size
               simp at hz5
               have hwn:∀ g,(Value.slice A ts.length c).ownBlock=some g→g<wr.heap.size:=fun g e=>(HA.out.row.low e).2
               have O6:Own (w5.setCell ⟨W.heap.size+1,4,none⟩ (.slice A' n6 c')) w3.heap.size 85 #[.int .i64 x.kd,.int .i64 x.fr,.int .i64 x.to,.string ⟨x.tx.toArray⟩,.slice x.A x.n x.c,.slice x.B x.m x.d,.bool true,.int .i64 pp,.int .i64 0] :=
                 Own.past (show Own w5 _ _ _ from (hg5.block _ H5.out.2.1.inside (fun e=>by have:=hwn _ e.symm;omega)).trans H5.out.2.1) (by show w3.heap.size≠W.heap.size+1;have:=HA.out.big;omega) _
               have OV5:Own w5 (W.heap.size+1) 27 #[.int .i64 4,.int .i64 fr,.int .i64 0,.string ⟨#[]⟩,.slice A ts.length c,.slice none 0 0] :=
                 (hg5.block _ H5.out.1.val.inside (fun e=>by have:=(H5.out.1.row.low e.symm).1;omega)).trans H5.out.1.val
               have y4:=OV5.at 4
               have z4:=OV5.free 4
               have q7:=O6.at 7
               have q8:=O6.at 8
               simp at y4 q7 q8
               obtain ⟨v0',v1',v2',v3',v4',v5',u2',u4',u5'⟩:=A6.facts hn6 rfl
               have HA6:=hid A6
               have HN6:=hid hn6
               clear hr5 hg5 hat5 A6 O6 OV5 hwn hn6))
          | (go_at_call 29;refine (HK2.out _).mono ?_;rintro e w' ⟨rfl,rfl⟩)
          | (go_at_call 69
             go_must (
               refine (rbroken_any 4 fr 0 ⟨#[]⟩ A' n6 c' none 0 0 (8) (k2) _).mono ?_
               rintro e w9 ⟨rfl,hb9⟩
               obtain ⟨o4,hO,hT,hV⟩:=HA6.out.broke HN6.out rfl hb9 (8) (k2)
               obtain ⟨p0,p1,p2,p3,p4,p5,p6,p7,p8,f0,f1,f2,f3,f4,f5,f6,f7,f8⟩:=nine_facts o4
               unfold put9 at hO hT hV
               have HO:=hid hO
               have HT:=hid hT
               have HV:=hid hV
               clear hO hT hV o4 hb9)))
        refine bodyPost_ret (results_cell_row rfl _ _ W.heap.size _ _ (0,0) _ rfl HO.out Tryz.underlying85 rfl part_size) rfl ?_
        rw[← HP.out]
        exact ⟨_,rfl,HV.out,HT.out⟩
     ·rw [if_pos (show s.data.toList.length≤k2 by rw[hsl];omega)] at hP
      have hge:s.size≤k2:=by omega
      have HP:=hid hP
      clear hP
      go_wp2_with (first
        | (go_at_call 30
           go_must (
             refine (HSM.out _).mono ?_
             rintro e w3 ⟨x,rfl,hk3,hb3⟩
             have A3:=HA.out.stay hb3
             have hz3:=hb3.size
             have hb4:=below1 w3 (.cells #[.int .i64 x.kd,.int .i64 x.fr,.int .i64 x.to,.string ⟨x.tx.toArray⟩,.slice x.A x.n x.c,.slice x.B x.m x.d,.bool true,.int .i64 pp,.int .i64 0] 85)
             have A4:=A3.stay hb4
             obtain ⟨v0,v1,v2,v3,v4,v5,u2,u4,u5⟩:=A4.facts HN.out rfl
             have hb5:=hb4.trans ((below1 (w3.alloc (.cells #[.int .i64 x.kd,.int .i64 x.fr,.int .i64 x.to,.string ⟨x.tx.toArray⟩,.slice x.A x.n x.c,.slice x.B x.m x.d,.bool true,.int .i64 pp,.int .i64 0] 85)) (.cells #[.int .i64 x.kd,.int .i64 x.fr,.int .i64 x.to,.string ⟨x.tx.toArray⟩,.slice x.A x.n x.c,.slice x.B x.m x.d] 27)).mono hb4.size)
             have A5:=A3.stay hb5
             have OP:=(Own.fresh w3 85 #[.int .i64 x.kd,.int .i64 x.fr,.int .i64 x.to,.string ⟨x.tx.toArray⟩,.slice x.A x.n x.c,.slice x.B x.m x.d,.bool true,.int .i64 pp,.int .i64 0]).over (.cells #[.int .i64 x.kd,.int .i64 x.fr,.int .i64 x.to,.string ⟨x.tx.toArray⟩,.slice x.A x.n x.c,.slice x.B x.m x.d] 27)
             have hk5:VKept wr.heap.size w3.heap.size ((w3.alloc (.cells #[.int .i64 x.kd,.int .i64 x.fr,.int .i64 x.to,.string ⟨x.tx.toArray⟩,.slice x.A x.n x.c,.slice x.B x.m x.d,.bool true,.int .i64 pp,.int .i64 0] 85)).alloc (.cells #[.int .i64 x.kd,.int .i64 x.fr,.int .i64 x.to,.string ⟨x.tx.toArray⟩,.slice x.A x.n x.c,.slice x.B x.m x.d] 27)) pv x:=fun u hu=>hk3 u (fun b h1 h2=>(hu b h1 h2).trans (hb5.block b h2))
             have H5:=hid (And.intro A5 (And.intro OP (And.intro hk5 hb5.size)))
             have NEW:=hid (item_rd (w3.alloc (.cells #[.int .i64 x.kd,.int .i64 x.fr,.int .i64 x.to,.string ⟨x.tx.toArray⟩,.slice x.A x.n x.c,.slice x.B x.m x.d,.bool true,.int .i64 pp,.int .i64 0] 85)) x (w3.heap.size+1) (by simp))
             clear hk3 hb3 A3 A4 hb4 A5 OP hk5 hb5))
        | (at_builtin
           go_must (
             refine row_append (K:=valK) _ rfl (.tmp 52) (.tmp 55) rfl (W.heap.size+2) (.slice A n0 c) xs rfl (HN.out▸H5.out.1.row) _ 1 1 [x] rfl NEW.out (by have:=H5.out.1.len;have:=HL.out;omega) H5.out.1.big ?_
             intro v5 w5 hr5 hg5 hat5
             rw[← HN.out] at hg5 hat5
             obtain ⟨A',c',hv5,A6⟩:=H5.out.1.push H5.out.2.2.1 HA.out.big H5.out.2.2.2 (fun g e=>(HA.out.row.low e).2) (fun g e=>by simp[Value.ownBlock] at e) hr5 hg5 hat5
             obtain ⟨n6,hn6⟩:∃ n6,(ts++[pv]).length=n6:=⟨_,rfl⟩
             rw[hn6] at hv5
             subst hv5
             have hz5:=hg5.size
             simp at hz5
             have hwn:∀ g,(Value.slice A ts.length c).ownBlock=some g→g<wr.heap.size:=fun g e=>(HA.out.row.low e).2
             have O6:Own (w5.setCell ⟨W.heap.size+1,4,none⟩ (.slice A' n6 c')) w3.heap.size 85 #[.int .i64 x.kd,.int .i64 x.fr,.int .i64 x.to,.string ⟨x.tx.toArray⟩,.slice x.A x.n x.c,.slice x.B x.m x.d,.bool true,.int .i64 pp,.int .i64 0] :=
               Own.past (show Own w5 _ _ _ from (hg5.block _ H5.out.2.1.inside (fun e=>by have:=hwn _ e.symm;omega)).trans H5.out.2.1) (by show w3.heap.size≠W.heap.size+1;have:=HA.out.big;omega) _
             have OV5:Own w5 (W.heap.size+1) 27 #[.int .i64 4,.int .i64 fr,.int .i64 0,.string ⟨#[]⟩,.slice A ts.length c,.slice none 0 0] :=
               (hg5.block _ H5.out.1.val.inside (fun e=>by have:=(H5.out.1.row.low e.symm).1;omega)).trans H5.out.1.val
             have y4:=OV5.at 4
             have z4:=OV5.free 4
             have q7:=O6.at 7
             have q8:=O6.at 8
             simp at y4 q7 q8
             obtain ⟨v0',v1',v2',v3',v4',v5',u2',u4',u5'⟩:=A6.facts hn6 rfl
             have HA6:=hid A6
             have HN6:=hid hn6
             clear hr5 hg5 hat5 A6 O6 OV5 hwn hn6))
        | (go_at_call 29;refine (HK2.out _).mono ?_;rintro e w' ⟨rfl,rfl⟩)
        | (go_at_call 69
           go_must (
             refine (rbroken_any 4 fr 0 ⟨#[]⟩ A' n6 c' none 0 0 (10) (s.size) _).mono ?_
             rintro e w9 ⟨rfl,hb9⟩
             obtain ⟨o4,hO,hT,hV⟩:=HA6.out.broke HN6.out rfl hb9 (10) (s.size)
             obtain ⟨p0,p1,p2,p3,p4,p5,p6,p7,p8,f0,f1,f2,f3,f4,f5,f6,f7,f8⟩:=nine_facts o4
             unfold put9 at hO hT hV
             have HO:=hid hO
             have HT:=hid hT
             have HV:=hid hV
             clear hO hT hV o4 hb9)))
      refine bodyPost_ret (results_cell_row rfl _ _ W.heap.size _ _ (0,0) _ rfl HO.out Tryz.underlying85 rfl part_size) rfl ?_
      rw[← HP.out]
      exact ⟨_,rfl,HV.out,HT.out⟩
    ·rw [if_pos hpf] at hP
     clear hp0
     cases pb
     ·rw [if_neg (by decide)] at hP
      have HP:=hid hP
      clear hP
      go_wp2_with (first
        | (go_at_call 30
           go_must (
             refine (HSM.out _).mono ?_
             rintro e w3 ⟨x,rfl,hk3,hb3⟩
             have A3:=HA.out.stay hb3
             have hb4:=below1 w3 (.cells #[.int .i64 x.kd,.int .i64 x.fr,.int .i64 x.to,.string ⟨x.tx.toArray⟩,.slice x.A x.n x.c,.slice x.B x.m x.d,.bool false,.int .i64 pp,.int .i64 pf] 85)
             have A4:=A3.stay hb4
             obtain ⟨v0,v1,v2,v3,v4,v5,u2,u4,u5⟩:=A4.facts HN.out rfl
             clear hk3 hb3 A3 hb4))
        | (go_at_call 69
           go_must (
             refine (rbroken_any 4 fr 0 ⟨#[]⟩ A n0 c none 0 0 pf pp _).mono ?_
             rintro e w9 ⟨rfl,hb9⟩
             obtain ⟨o4,hO,hT,hV⟩:=A4.broke HN.out rfl hb9 pf pp
             obtain ⟨p0,p1,p2,p3,p4,p5,p6,p7,p8,f0,f1,f2,f3,f4,f5,f6,f7,f8⟩:=nine_facts o4
             unfold put9 at hO hT hV
             have HO:=hid hO
             have HT:=hid hT
             have HV:=hid hV
             clear hO hT hV o4 hb9 A4)))
      refine bodyPost_ret (results_cell_row rfl _ _ W.heap.size _ _ (0,0) _ rfl HO.out Tryz.underlying85 rfl part_size) rfl ?_
      rw[← HP.out]
      exact ⟨_,rfl,HV.out,HT.out⟩
     ·rw [if_pos rfl] at hP
      have HP:=hid hP
      clear hP
      go_wp2_with (first
        | (go_at_call 30
           go_must (
             refine (HSM.out _).mono ?_
             rintro e w3 ⟨x,rfl,hk3,hb3⟩
             have A3:=HA.out.stay hb3
             have hz3:=hb3.size
             have hb4:=below1 w3 (.cells #[.int .i64 x.kd,.int .i64 x.fr,.int .i64 x.to,.string ⟨x.tx.toArray⟩,.slice x.A x.n x.c,.slice x.B x.m x.d,.bool true,.int .i64 pp,.int .i64 pf] 85)
             have A4:=A3.stay hb4
             obtain ⟨v0,v1,v2,v3,v4,v5,u2,u4,u5⟩:=A4.facts HN.out rfl
             have hb5:=hb4.trans ((below1 (w3.alloc (.cells #[.int .i64 x.kd,.int .i64 x.fr,.int .i64 x.to,.string ⟨x.tx.toArray⟩,.slice x.A x.n x.c,.slice x.B x.m x.d,.bool true,.int .i64 pp,.int .i64 pf] 85)) (.cells #[.int .i64 x.kd,.int .i64 x.fr,.int .i64 x.to,.string ⟨x.tx.toArray⟩,.slice x.A x.n x.c,.slice x.B x.m x.d] 27)).mono hb4.size)
             have A5:=A3.stay hb5
             have OP:=(Own.fresh w3 85 #[.int .i64 x.kd,.int .i64 x.fr,.int .i64 x.to,.string ⟨x.tx.toArray⟩,.slice x.A x.n x.c,.slice x.B x.m x.d,.bool true,.int .i64 pp,.int .i64 pf]).over (.cells #[.int .i64 x.kd,.int .i64 x.fr,.int .i64 x.to,.string ⟨x.tx.toArray⟩,.slice x.A x.n x.c,.slice x.B x.m x.d] 27)
             have hk5:VKept wr.heap.size w3.heap.size ((w3.alloc (.cells #[.int .i64 x.kd,.int .i64 x.fr,.int .i64 x.to,.string ⟨x.tx.toArray⟩,.slice x.A x.n x.c,.slice x.B x.m x.d,.bool true,.int .i64 pp,.int .i64 pf] 85)).alloc (.cells #[.int .i64 x.kd,.int .i64 x.fr,.int .i64 x.to,.string ⟨x.tx.toArray⟩,.slice x.A x.n x.c,.slice x.B x.m x.d] 27)) pv x:=fun u hu=>hk3 u (fun b h1 h2=>(hu b h1 h2).trans (hb5.block b h2))
             have H5:=hid (And.intro A5 (And.intro OP (And.intro hk5 hb5.size)))
             have NEW:=hid (item_rd (w3.alloc (.cells #[.int .i64 x.kd,.int .i64 x.fr,.int .i64 x.to,.string ⟨x.tx.toArray⟩,.slice x.A x.n x.c,.slice x.B x.m x.d,.bool true,.int .i64 pp,.int .i64 pf] 85)) x (w3.heap.size+1) (by simp))
             clear hk3 hb3 A3 A4 hb4 A5 OP hk5 hb5))
        | (at_builtin
           go_must (
             refine row_append (K:=valK) _ rfl (.tmp 52) (.tmp 55) rfl (W.heap.size+2) (.slice A n0 c) xs rfl (HN.out▸H5.out.1.row) _ 1 1 [x] rfl NEW.out (by have:=H5.out.1.len;have:=HL.out;omega) H5.out.1.big ?_
             intro v5 w5 hr5 hg5 hat5
             rw[← HN.out] at hg5 hat5
             obtain ⟨A',c',hv5,A6⟩:=H5.out.1.push H5.out.2.2.1 HA.out.big H5.out.2.2.2 (fun g e=>(HA.out.row.low e).2) (fun g e=>by simp[Value.ownBlock] at e) hr5 hg5 hat5
             obtain ⟨n6,hn6⟩:∃ n6,(ts++[pv]).length=n6:=⟨_,rfl⟩
             rw[hn6] at hv5
             subst hv5
             have hz5:=hg5.size
             simp at hz5
             have hwn:∀ g,(Value.slice A ts.length c).ownBlock=some g→g<wr.heap.size:=fun g e=>(HA.out.row.low e).2
             have O6:Own (w5.setCell ⟨W.heap.size+1,4,none⟩ (.slice A' n6 c')) w3.heap.size 85 #[.int .i64 x.kd,.int .i64 x.fr,.int .i64 x.to,.string ⟨x.tx.toArray⟩,.slice x.A x.n x.c,.slice x.B x.m x.d,.bool true,.int .i64 pp,.int .i64 pf] :=
               Own.past (show Own w5 _ _ _ from (hg5.block _ H5.out.2.1.inside (fun e=>by have:=hwn _ e.symm;omega)).trans H5.out.2.1) (by show w3.heap.size≠W.heap.size+1;have:=HA.out.big;omega) _
             have OV5:Own w5 (W.heap.size+1) 27 #[.int .i64 4,.int .i64 fr,.int .i64 0,.string ⟨#[]⟩,.slice A ts.length c,.slice none 0 0] :=
               (hg5.block _ H5.out.1.val.inside (fun e=>by have:=(H5.out.1.row.low e.symm).1;omega)).trans H5.out.1.val
             have y4:=OV5.at 4
             have z4:=OV5.free 4
             have q7:=O6.at 7
             have q8:=O6.at 8
             simp at y4 q7 q8
             obtain ⟨v0',v1',v2',v3',v4',v5',u2',u4',u5'⟩:=A6.facts hn6 rfl
             have HA6:=hid A6
             have HN6:=hid hn6
             clear hr5 hg5 hat5 A6 O6 OV5 hwn hn6))
        | (go_at_call 69
           go_must (
             refine (rbroken_any 4 fr 0 ⟨#[]⟩ A' n6 c' none 0 0 (pf) (pp) _).mono ?_
             rintro e w9 ⟨rfl,hb9⟩
             obtain ⟨o4,hO,hT,hV⟩:=HA6.out.broke HN6.out rfl hb9 (pf) (pp)
             obtain ⟨p0,p1,p2,p3,p4,p5,p6,p7,p8,f0,f1,f2,f3,f4,f5,f6,f7,f8⟩:=nine_facts o4
             unfold put9 at hO hT hV
             have HO:=hid hO
             have HT:=hid hT
             have HV:=hid hV
             clear hO hT hV o4 hb9)))
      refine bodyPost_ret (results_cell_row rfl _ _ W.heap.size _ _ (0,0) _ rfl HO.out Tryz.underlying85 rfl part_size) rfl ?_
      rw[← HP.out]
      exact ⟨_,rfl,HV.out,HT.out⟩
   ·rw [arrGo_end s.data.toList _ fr f k ts (by rw[hsl];omega)] at hP
    have HP:=hid hP
    obtain ⟨v0,v1,v2,v3,v4,v5,u2,u4,u5⟩:=hA.facts hn0 rfl
    have HA:=hid hA
    have hge:s.size≤k:=by omega
    clear hP hA hn0
    go_wp2_with (first
      | (go_at_call 69
         go_must (
           refine (rbroken_any 4 fr 0 ⟨#[]⟩ A n0 c none 0 0 10 s.size _).mono ?_
           rintro e w9 ⟨rfl,hb9⟩
           obtain ⟨o4,hO,hT,hV⟩:=HA.out.broke HN.out rfl hb9 10 s.size
           obtain ⟨p0,p1,p2,p3,p4,p5,p6,p7,p8,f0,f1,f2,f3,f4,f5,f6,f7,f8⟩:=nine_facts o4
           unfold put9 at hO hT hV
           have HO:=hid hO
           have HT:=hid hT
           have HV:=hid hV
           clear hO hT hV o4 hb9)))
    refine bodyPost_ret (results_cell_row rfl _ _ W.heap.size _ _ (0,0) _ rfl HO.out Tryz.underlying85 rfl part_size) rfl ?_
    rw[← HP.out]
    exact ⟨_,rfl,HV.out,HT.out⟩
theorem rarr_any (s:ByteArray) (cl:Bool) (n k:Nat) (hs:s.size≤50000) (hn:n≤100000) (HSC:SomeC s cl n) (hk:k<s.size) (W:World) :
   Calls Tryz.prog 50 #[.string s,.int .i64 k,.int .i64 ((n:Int)+1),.bool cl] W fun e w'=>PartP W (arrR s.data.toList (someR s.data.toList cl n) k) e w':=by
 have hsl:s.data.toList.length=s.size:=rfl
 obtain ⟨b,hb⟩:∃ b,blankR s.data.toList (k+1)=b:=⟨_,rfl⟩
 have hle:=blankR_le s.data.toList (k+1) hk
 rw[hb] at hle
 have hle2:b≤s.size:=hle.2
 unfold arrR
 rw[hb,hsl]
 by_cases hlt:b<s.size
 ·rw [getD_at s b hlt]
  by_cases h93:s[b]=93
  ·rw[if_pos ⟨hlt,h93⟩]
   exact rarr_empty s cl n k b hs hn hk hb hlt ((u8_int (by decide)).1 h93) W
  ·rw[if_neg (fun h=>h93 h.2)]
   exact rarr_loop s cl n k b hs hn HSC hk hb hlt (fun e=>h93 ((u8_int (by decide)).2 e)) W _ rfl
 ·rw [if_neg (fun h=>hlt h.1)]
  have e:arrGo s.data.toList (someR s.data.toList cl n) k (s.size+1-b) b []=brkR 4 k [] [] 10 s.size:=by
    obtain ⟨g,hg⟩:∃ g,s.size+1-b=g+1:=⟨s.size-b,by omega⟩
    rw[hg,arrGo_end _ _ _ _ _ _ (by rw[hsl];omega)]
    rfl
  rw[e]
  exact rarr_none s cl n k b hs hn hk hb hlt W
end
end Go.Proofs.YtbpilcklglhloaaGreatDoor
