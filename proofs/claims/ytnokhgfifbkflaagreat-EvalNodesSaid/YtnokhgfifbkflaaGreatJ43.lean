/- Lemmas. -/
import Derived.Test.YtnokhgfifbkflaaGreatProg
import Derived.Test.YtnokhgfifbkflaaGreatJ36
import Derived.Test.YtnokhgfifbkflaaGreatJ42
set_option maxRecDepth 100000
set_option maxHeartbeats 8000000
set_option linter.unusedVariables false
set_option linter.unusedSimpArgs false
namespace Go.Proofs.YtnokhgfifbkflaaGreat
open Go.Lib (hid)
section
open Go.RowKit
theorem ritem_any (d:Nd) (s:NdV) (i:Nat) (V0 W:World) (h0:Below V0.heap.size V0 W) (hv:VIs V0 d.t s.x) (hp:RdG stpK W s.S s.n d.p) (hi:i<d.t.items.length) (h5:d.t.kd=5→d.t.names.length=d.t.items.length) (hi9:i≤1000000) (hp9:d.p.length≤1000000) :
   Calls Tryz.prog 47 #[.agg #[.int .i64 s.x.kd,.int .i64 s.x.fr,.int .i64 s.x.to,.string ⟨s.x.tx.toArray⟩,.slice s.x.A s.x.n s.x.c,.slice s.x.B s.x.m s.x.d,.slice s.S s.n s.c],.int .i64 i] W (ItEnd V0 W (itmN d i)):=by
 obtain ⟨t,p⟩:=d
 obtain ⟨x,S,sn,sc⟩:=s
 have hst:=fun w (hb:Below W.heap.size W w)=>rstep16_any t x i w (hv.stay (h0.trans (hb.mono h0.size))) (fun h=>by rw[h5 h];exact hi) hi9
 have hit:=items_getD t hi
 obtain ⟨kd,fr,td,tx,items,names⟩:=t
 have hv':=hv
 unfold VIs at hv'
 obtain ⟨h1,h2,h3,h4,hcap,hcap2,h7,xs,h8,h9⟩:=hv'
 obtain ⟨y,hy,hvy⟩:=h9.at i _ hit
 have e1:i<xs.length:=(List.getElem?_eq_some_iff.1 hy).1
 have e2:xs.length=x.n:=h8.1
 have hxl:0<x.n:=by omega
 obtain ⟨b,o,hA,hb,_⟩:=h8.2 hxl
 have hn:i<x.n:=by omega
 clear e1 e2
 obtain ⟨xk,xf,xt,xx,xA,n,xc,xB,m,xd⟩:=x
 obtain rfl:xA=some ⟨b,o,none⟩:=hA
 replace hn:i<n:=hn
 have hbW:b<W.heap.size:=Nat.lt_of_lt_of_le hb h0.size
 refine ritem_at ⟨.mk kd fr td tx items names,p⟩ i y b o xk xf xt xx n xc xB m xd S sn sc V0 W ?_ hbW hp hn hcap hi9 hp9 hvy hst
 have z1:(W.alloc (.cells #[.int .i64 xk,.int .i64 xf,.int .i64 xt,.string ⟨xx.toArray⟩,.slice (some ⟨b,o,none⟩) n xc,.slice xB m xd,.slice S sn sc] 60)).heap.size=W.heap.size+1:=by simp
 have hO:=(Own.fresh W 60 #[.int .i64 xk,.int .i64 xf,.int .i64 xt,.string ⟨xx.toArray⟩,.slice (some ⟨b,o,none⟩) n xc,.slice xB m xd,.slice S sn sc]).over (.cells #[.int .i64 0,.int .i64 0,.int .i64 0,.string ⟨#[]⟩,.slice none 0 0,.slice none 0 0,.slice none 0 0] 60)
 have hB2:Below W.heap.size W ((W.alloc (.cells #[.int .i64 xk,.int .i64 xf,.int .i64 xt,.string ⟨xx.toArray⟩,.slice (some ⟨b,o,none⟩) n xc,.slice xB m xd,.slice S sn sc] 60)).alloc (.cells #[.int .i64 0,.int .i64 0,.int .i64 0,.string ⟨#[]⟩,.slice none 0 0,.slice none 0 0,.slice none 0 0] 60)):=(below1 W _).alloc (by omega) _
 have hcell:∀ j u,(v6Cells y)[j]?=some u→j<6→((W.alloc (.cells #[.int .i64 xk,.int .i64 xf,.int .i64 xt,.string ⟨xx.toArray⟩,.slice (some ⟨b,o,none⟩) n xc,.slice xB m xd,.slice S sn sc] 60)).alloc (.cells #[.int .i64 0,.int .i64 0,.int .i64 0,.string ⟨#[]⟩,.slice none 0 0,.slice none 0 0,.slice none 0 0] 60)).cell? ⟨b,o+(i*6+j),none⟩=some u:=fun j u hu hj=>by
   have h1:=h8.at rfl hy (j:=j) (u:=u) hu
   exact (hB2.cell (p:=⟨b,o+(i*6+j),none⟩) hbW).trans ((h0.cell (p:=⟨b,o+(i*6+j),none⟩) hb).trans h1)
 refine ⟨⟨hO.at 0,hO.at 1,hO.at 2,hO.at 3,hO.at 4,hO.at 5,hO.at 6⟩,⟨hcell 0 _ rfl (by omega),?_,?_,?_,?_,?_⟩,hB2,by simp;omega⟩
 ·rw[Nat.add_assoc];exact hcell 1 _ rfl (by omega)
 ·rw[Nat.add_assoc];exact hcell 2 _ rfl (by omega)
 ·rw[Nat.add_assoc];exact hcell 3 _ rfl (by omega)
 ·rw[Nat.add_assoc];exact hcell 4 _ rfl (by omega)
 ·rw[Nat.add_assoc];exact hcell 5 _ rfl (by omega)
end
section
open Go.RowKit
def ItEx (V0 W:World) (d:Nd) (e:Ending) (w':World):Prop :=
 ∃ (k:Int) (f t:Nat) (x:List UInt8) (A:Option Addr) (n c:Nat) (B:Option Addr) (m dd:Nat) (S:Option Addr) (sn sc:Nat),
   e=.returned (.agg #[.int .i64 k,.int .i64 f,.int .i64 t,.string ⟨x.toArray⟩,.slice A n c,.slice B m dd,.slice S sn sc])∧NdIs V0 w' W.heap.size ⟨⟨k,f,t,x,A,n,c,B,m,dd⟩,S,sn,sc⟩ d∧Below W.heap.size W w'
theorem ritem_ex (d:Nd) (s:NdV) (i:Nat) (V0 W:World) (h0:Below V0.heap.size V0 W) (hv:VIs V0 d.t s.x) (hp:RdG stpK W s.S s.n d.p) (hi:i<d.t.items.length) (h5:d.t.kd=5→d.t.names.length=d.t.items.length) (hi9:i≤1000000) (hp9:d.p.length≤1000000) :
   Calls Tryz.prog 47 #[.agg #[.int .i64 s.x.kd,.int .i64 s.x.fr,.int .i64 s.x.to,.string ⟨s.x.tx.toArray⟩,.slice s.x.A s.x.n s.x.c,.slice s.x.B s.x.m s.x.d,.slice s.S s.n s.c],.int .i64 i] W (ItEx V0 W (itmN d i)):=by
 refine (ritem_any d s i V0 W h0 hv hp hi h5 hi9 hp9).mono ?_
 rintro e w' ⟨⟨⟨k,f,t,x,A,n,c,B,m,dd⟩,S,sn,sc⟩,rfl,h1,h2⟩
 exact ⟨k,f,t,x,A,n,c,B,m,dd,S,sn,sc,rfl,h1,h2⟩
theorem cn_take:∀ (ts:List Tree) (k:Nat),cnL (ts.take k)≤cnL ts
 | [],k=>by simp[cnL]
 | t :: ts,0=>by simp[cnL]
 | t :: ts,k+1=>by
   have:=cn_take ts k
   rw[List.take_succ_cons,cnL,cnL]
   omega
theorem grow_rd {α:Type} {K:RowK α} {w:World} {base:Nat} {A:Option Addr} {m c:Nat} {l:List α} (h:GRow K w base (.slice A m c) l):RdG K w A m l:=by
 obtain ⟨A',c',e,_⟩:=h.form
 injection e with e1 e2 e3
 subst e1 e2
 exact h.rd
end
section
open Go.RowKit
section
variable (sg:Sgm) (hR:∀ y∈sg.sels,RightI y) (hL:sg.sels.length≤1000)
end
def OkN (N:Nat)(d:Nd):Prop:=NamT d.t∧cnT d.t≤N∧d.p.length+cnT d.t≤N
theorem itm_ok {d:Nd} {N i:Nat} (h:OkN N d) (hi:i<d.t.items.length):OkN N (itmN d i):=by
 have hm:itmT d.t i∈d.t.items:=List.mem_of_getElem? (items_getD d.t hi)
 have h1:=cn_mem hm
 have h2:=cn_items d.t
 refine ⟨nam_mem (nam_items h.1).2 hm,?_,?_⟩
 ·have:=h.2.1
  show cnT (itmT d.t i)≤N
  omega
 ·have:=h.2.2
  show (d.p++[stpT d.t i]).length+cnT (itmT d.t i)≤N
  rw[List.length_append,List.length_singleton]
  omega
end
section
open Go.RowKit
def RelSm (W:World) (l l':List Pst) (i:Value) (wr:World):Prop :=
 ∃ k:Nat,k≤l.length∧i=.int .i64 k∧l.take k=l'.take k∧Below W.heap.size W wr
def SmEnd (l l':List Pst)(W:World)(e:Ending)(w':World):Prop:=∃ b,e=.returned (.bool b)∧(b=true↔l=l')∧Below W.heap.size W w'
theorem pst_eq {x y:Pst} (h1:x.named=y.named) (h2:x.name=y.name) (h3:x.index=y.index):x=y:=by
 cases x;cases y;simp at h1 h2 h3;simp[h1,h2,h3]
theorem same_on {l l':List Pst} {k:Nat} (h:k<l.length) (h':k<l'.length) (ht:l.take k=l'.take k) (he:l[k]=l'[k]):l.take (k+1)=l'.take (k+1):=by
 rw[List.take_succ_eq_append_getElem h,List.take_succ_eq_append_getElem h',ht,he]
theorem pst_not {l l':List Pst}{k:Nat}(h:k<l.length)(h':k<l'.length)(he:l[k]≠l'[k]):¬ l=l':=fun e=>he (by subst e;rfl)
theorem same13_any (l l':List Pst) (A A':Option Addr) (n n' c c':Nat) (W:World) (hx:RdP W A n l) (hx':RdP W A' n' l') (h9:n≤100000) (h9':n'≤100000) :
   Calls Tryz.prog 20 #[.slice A n c,.slice A' n' c'] W (SmEnd l l' W):=by
 have hl:l.length=n:=hx.1
 have hl':l'.length=n':=hx'.1
 have HX:=hid hx
 have HX':=hid hx'
 clear hx hx'
 by_cases hn:n=n'
 rotate_left
 ·have q:((n:Int) != n')=true:=bne_iff_ne.2 (by omega)
  have HF:=hid (show ¬ l=l' from fun e=>hn (by rw[← hl,← hl',e]))
  clear hl hl'
  go_enter Tryz.func20,Tryz.ntmps20
  go_wp2
  go_ret
  exact ⟨false,rfl,⟨fun h=>(by cases h),fun h=>absurd h HF.out⟩,Below.refl _ _⟩
 subst hn
 have q:((n:Int) != n)=false:=by simp
 go_enter Tryz.func20,Tryz.ntmps20
 go_wp2
 go_loopw [13] (fun i wr=>RelSm W l l' i wr) (fun i _=>l.length-(intOf i).toNat)
 case atStart=>exact ⟨0,Nat.zero_le _,rfl,rfl,Below.refl _ _⟩
 case round =>
   obtain ⟨k,hk,rfl,ht,hb⟩:=hrel
   by_cases hlt:k<l.length
   rotate_left
   ·have q2:¬ (k:Int)<n:=by omega
    have HE:=hid (show l=l' by rw[← List.take_of_length_le (l:=l) (i:=k) (by omega),ht,List.take_of_length_le (by omega)])
    clear ht
    go_wp2
    go_ret
    exact ⟨true,rfl,⟨fun _=>HE.out,fun _=>rfl⟩,hb⟩
   have q2:(k:Int)<n:=by omega
   have hlt':k<l'.length:=by omega
   have hX2:=HX.out.stay hb
   have hX2':=HX'.out.stay hb
   obtain ⟨a,rfl,ha,hc⟩:=hX2.2 (by omega)
   obtain ⟨a',rfl,ha',hc'⟩:=hX2'.2 (by omega)
   obtain ⟨s0,s1,s2⟩:=hc k l[k] (List.getElem?_eq_getElem hlt)
   obtain ⟨t0,t1,t2⟩:=hc' k l'[k] (List.getElem?_eq_getElem hlt')
   have HON:=hid (fun h=>same_on hlt hlt' ht h)
   have HNO:=hid (fun h=>pst_not hlt hlt' h)
   clear hX2 hX2' hc hc' ht
   generalize l[k]=x at *
   generalize l'[k]=y at *
   by_cases h1:x.named=y.named
   rotate_left
   ·have HF:=hid (HNO.out (fun e=>h1 (by rw[e])))
    go_wp2_with fail
    go_region
    all_goals
      go_wp2
      go_ret
      exact ⟨false,rfl,⟨fun h=>(by cases h),fun h=>absurd h HF.out⟩,below_drewN (n:=1) hb⟩
   by_cases h2:x.name=y.name
   rotate_left
   ·have HF:=hid (HNO.out (fun e=>h2 (by rw[e])))
    go_wp2_with fail
    go_region
    all_goals
      go_wp2
      go_ret
      exact ⟨false,rfl,⟨fun h=>(by cases h),fun h=>absurd h HF.out⟩,below_drewN (n:=1) hb⟩
   by_cases h3:x.index=y.index
   rotate_left
   ·have HF:=hid (HNO.out (fun e=>h3 (by rw[e])))
    go_wp2_with fail
    go_region
    all_goals
      go_wp2
      go_ret
      exact ⟨false,rfl,⟨fun h=>(by cases h),fun h=>absurd h HF.out⟩,below_drewN (n:=1) hb⟩
   have HT:=hid (HON.out (pst_eq h1 h2 h3))
   go_wp2_with fail
   go_region
   all_goals
     go_wp2
     go_roundw
     case rel=>exact ⟨k+1,hlt,by go_num,HT.out,below_drewN (n:=1) hb⟩
     case measure=>simp[intOf];omega
end
section
open Go.RowKit
def NsRd (V0 w:World) (A:Option Addr) (m:Nat) (l:List Nd):Prop :=
 ∃ ns:List NdV,RdG ndK w A m ns∧ns.length=l.length ∧ ∀ (i:Nat) (s:NdV) (d:Nd),ns[i]?=some s→l[i]?=some d→VIs V0 d.t s.x∧RdG stpK w s.S s.n d.p
def RelSm16 (W:World)(l:List Nd)(i:Value)(wr:World):Prop:=∃ k:Nat,k≤l.length∧i=.int .i64 k∧Below W.heap.size W wr
theorem same16_yes (l:List Nd) (A A':Option Addr) (m m' c c':Nat) (V0 W:World) (he:EsRd W A m l) (hd:NsRd V0 W A' m' l) (h9:l.length≤1000000) (hp:∀ d∈l,d.p.length≤100000)
   (KS:∀ (p:List Pst) (B B':Option Addr) (n n' d d':Nat) (w:World),RdG stpK w B n p→RdG stpK w B' n' p→p.length≤100000→Calls Tryz.prog 20 #[.slice B n d,.slice B' n' d'] w fun e w'=>e=.returned (.bool true)∧Below w.heap.size w w') :
   Calls Tryz.prog 8 #[.slice A m c,.slice A' m' c'] W fun e w'=>e=.returned (.bool true)∧Below W.heap.size W w':=by
 obtain ⟨es,e1,e2,e3⟩:=he
 obtain ⟨ds,d1,d2,d3⟩:=hd
 obtain rfl:l.length=m:=by have:=e1.1;omega
 obtain rfl:l.length=m':=by have:=d1.1;omega
 obtain ⟨n,hn⟩:∃ n,n=l.length:=⟨_,rfl⟩
 have HN:=hid hn
 rw[← hn] at e1 d1 ⊢
 have HE:=hid (And.intro e1 (And.intro e2 e3))
 have HD:=hid (And.intro d1 (And.intro d2 d3))
 have HP:=hid hp
 have HKS:=hid KS
 have q:((n:Int) != n)=false:=by simp
 have hnI:(n:Int)≤1000000:=by omega
 clear e1 e2 e3 d1 d2 d3 hn hp KS
 go_enter Tryz.func8,Tryz.ntmps8
 go_wp2
 go_loopw [13] (fun i wr=>RelSm16 W l i wr) (fun i _=>l.length-(intOf i).toNat)
 case atStart=>exact ⟨0,Nat.zero_le _,rfl,Below.refl _ _⟩
 case round =>
   obtain ⟨k,hk,rfl,hb⟩:=hrel
   have hk9:(k:Int)≤1000000:=by omega
   have hkn:=HN.out
   by_cases hlt:k<n
   rotate_left
   ·have q2:¬ (k:Int)<n:=by omega
    clear hkn
    go_wp2
    go_ret
    exact ⟨rfl,hb⟩
   have q2:(k:Int)<n:=by omega
   have hke:k<es.length:=by have:=HE.out.2.1;omega
   have hkd:k<ds.length:=by have:=HD.out.2.1;omega
   have hkl:k<l.length:=by omega
   have re:=HE.out.1.below hb
   have rd:=HD.out.1.below hb
   obtain ⟨eb,eo,rfl,heb,_⟩:=re.2 (by omega)
   obtain ⟨db,dO,rfl,hdb,_⟩:=rd.2 (by omega)
   have ce:∀ r u,(enK.enc es[k])[r]?=some u→wr.cell? ⟨eb,eo+(k*3+r),none⟩=some u:=fun r u hu=>re.at rfl (List.getElem?_eq_getElem hke) (j:=r) (u:=u) hu
   have cd:∀ r u,(ndCells ds[k])[r]?=some u→wr.cell? ⟨db,dO+(k*7+r),none⟩=some u:=fun r u hu=>rd.at rfl (List.getElem?_eq_getElem hkd) (j:=r) (u:=u) hu
   obtain ⟨f1,f2,f3⟩:=HE.out.2.2 k _ _ (List.getElem?_eq_getElem hke) (List.getElem?_eq_getElem hkl)
   obtain ⟨g1,g2⟩:=HD.out.2.2 k _ _ (List.getElem?_eq_getElem hkd) (List.getElem?_eq_getElem hkl)
   have hpl:=HP.out _ (List.getElem_mem hkl)
   have hfx:ds[k].x.fr=l[k].t.fr∧ds[k].x.to=l[k].t.to:=by
     generalize l[k]=d at *
     obtain ⟨t,p⟩:=d
     obtain ⟨kd,fr,td,tx,items,names⟩:=t
     have:=g1
     unfold VIs at this
     exact ⟨this.2.1,this.2.2.1⟩
   rw[← hfx.1] at f1
   rw[← hfx.2] at f2
   have f3':=f3.below hb
   have g2':=g2.below hb
   clear hfx g1 f3 g2 re rd
   generalize es[k]=s at *
   generalize ds[k]=d at *
   generalize l[k].p=p at *
   obtain ⟨S1,n1,c1,fr1,td1⟩:=s
   replace f1:fr1=d.x.fr:=f1
   replace f2:td1=d.x.to:=f2
   subst f1 f2
   obtain ⟨⟨k1,fr1,td1,x1,A3,n3,c3,B3,m3,d3⟩,S3,sn3,sc3⟩:=d
   have a0:wr.cell? ⟨eb,eo+k*3,none⟩=some (.slice S1 n1 c1):=ce 0 _ rfl
   have a1:wr.cell? ⟨eb,eo+k*3+1,none⟩=some (.int .i64 fr1):=by rw[Nat.add_assoc];exact ce 1 _ rfl
   have a2:wr.cell? ⟨eb,eo+k*3+2,none⟩=some (.int .i64 td1):=by rw[Nat.add_assoc];exact ce 2 _ rfl
   have b1:wr.cell? ⟨db,dO+k*7+1,none⟩=some (.int .i64 fr1):=by rw[Nat.add_assoc];exact cd 1 _ rfl
   have b2:wr.cell? ⟨db,dO+k*7+2,none⟩=some (.int .i64 td1):=by rw[Nat.add_assoc];exact cd 2 _ rfl
   have b6:wr.cell? ⟨db,dO+k*7+6,none⟩=some (.slice S3 sn3 sc3):=by rw[Nat.add_assoc];exact cd 6 _ rfl
   have g3:((fr1:Int) != fr1)=false:=by simp
   have g4:((td1:Int) != td1)=false:=by simp
   have K1:=hid (fun w (hb':Below wr.heap.size wr w)=>HKS.out p S1 S3 n1 sn3 c1 sc3 w (f3'.below hb') (g2'.below hb') hpl)
   have HSS:=hid (fun w' (hb':Below wr.heap.size wr w')=>show w'.cell? ⟨eb,eo+k*3,none⟩=some (.slice S1 n1 c1)∧w'.cell? ⟨eb,eo+k*3+1,none⟩=some (.int .i64 fr1)∧w'.cell? ⟨eb,eo+k*3+2,none⟩=some (.int .i64 td1)∧w'.cell? ⟨db,dO+k*7+1,none⟩=some (.int .i64 fr1)∧w'.cell? ⟨db,dO+k*7+2,none⟩=some (.int .i64 td1)∧w'.cell? ⟨db,dO+k*7+6,none⟩=some (.slice S3 sn3 sc3) from
     ⟨(hb'.cell heb).trans a0,(hb'.cell (p:=⟨eb,eo+k*3+1,none⟩) heb).trans a1,(hb'.cell (p:=⟨eb,eo+k*3+2,none⟩) heb).trans a2,(hb'.cell (p:=⟨db,dO+k*7+1,none⟩) hdb).trans b1,(hb'.cell (p:=⟨db,dO+k*7+2,none⟩) hdb).trans b2,(hb'.cell (p:=⟨db,dO+k*7+6,none⟩) hdb).trans b6⟩)
   have hSA:=HSS.out wr (Below.refl _ _)
   have HB:=hid hb
   have u4:(0:Int)≤(k:Int):=by omega
   clear ce cd a0 a1 a2 b1 b2 b6 f3' g2' hb heb hdb hke hkd hkl hpl hkn
   go_upto_region 6 with fail
   go_region_held3 (fun w'=>w'.cell? ⟨eb,eo+k*3,none⟩=some (.slice S1 n1 c1)∧w'.cell? ⟨eb,eo+k*3+1,none⟩=some (.int .i64 fr1)∧w'.cell? ⟨eb,eo+k*3+2,none⟩=some (.int .i64 td1)∧w'.cell? ⟨db,dO+k*7+1,none⟩=some (.int .i64 fr1)∧w'.cell? ⟨db,dO+k*7+2,none⟩=some (.int .i64 td1)∧w'.cell? ⟨db,dO+k*7+6,none⟩=some (.slice S3 sn3 sc3))
     (first|exact HSS.out _ (Below.refl _ _)|exact HSS.out _ (Below.refl _ _).drew|exact HSS.out _ h6)
     (first
       | (go_at_call 20;refine (K1.out _ (by first|exact (Below.refl wr.heap.size wr).drew|exact Below.refl _ _)).mono ?_;rintro e w6 ⟨rfl,hb6⟩;have h6:Below wr.heap.size wr w6:=(by first|exact (Below.refl wr.heap.size wr).drew.trans hb6|exact hb6)))
   all_goals
     have HN6:=hid (show RelSm16 W l (.int .i64 ((k+1:Nat):Int)) w6 from ⟨k+1,by have:=HN.out;omega,rfl,HB.out.trans (h6.mono HB.out.size)⟩)
     clear h6 hb6 hSA
     go_wp2
     go_roundw
     case rel=>exact HN6.out
     case measure=>have:=HN.out;simp[intOf]<;>omega
end
section
open Go.RowKit
theorem same_steps (p:List Pst) (B B':Option Addr) (n n' d d':Nat) (w:World) (h:RdG stpK w B n p) (h':RdG stpK w B' n' p) (h9:p.length≤100000) :
   Calls Tryz.prog 20 #[.slice B n d,.slice B' n' d'] w fun e w'=>e=.returned (.bool true)∧Below w.heap.size w w':=by
 refine (same13_any p p B B' n n' d d' w (rdp_of h) (rdp_of h') (by have:=h.1;omega) (by have:=h'.1;omega)).mono ?_
 rintro e w' ⟨b,rfl,hb,hbl⟩
 exact ⟨by rw[hb.2 rfl],hbl⟩
end
end Go.Proofs.YtnokhgfifbkflaaGreat
