/- Lemmas. -/
import Derived.Test.YtbpilcklglhloaaGreatDoorJ12
set_option maxRecDepth 100000
set_option maxHeartbeats 8000000
set_option linter.unusedVariables false
namespace Go.Proofs.YtbpilcklglhloaaGreatDoor
open Go.Lib (hid)
section
theorem text_back (t:Tree) (l:List UInt8) (d:Int) (hd:depT t≤(newN d).most) (st:LSt) (ts:List Tok) (g1:runL .out l 0=some (st,ts)) (g2:EndT t ts st):(parseP l d).2.1=1∧sameT t (treeP l d)=true:=by
 have hl:(newN d).op.length+depT t≤(newN d).most:=by show 0+depT t≤_;omega
 have fin:∀ (es es1 es2:List Evt) (t':Tree) (K:Nat),goP .out (newN d) l 0=(es1++es2,1,K)→es1++es2=es→sameT t t'=true→(∀ b,bldA b es=addB b (stepO (newN d).op) t')→(parseP l d).2.1=1∧sameT t (treeP l d)=true:=by
   intro es es1 es2 t' K h1 h2 h3 h4
   have hp:parseP l d=(es1++es2,1,K):=h1
   refine ⟨by rw[hp],?_⟩
   unfold treeP treeE
   rw[hp]
   show sameT t ((bldA ⟨[],none⟩ (es1++es2)).root.getD _)=true
   rw[h2,h4]
   exact h3
 rcases g2 with ⟨rfl,hT⟩|⟨a,f,p,rfl,hw,hT⟩
 ·obtain ⟨es,t',v1,v2,v3⟩:=val_tok t ts (newN d) hT rfl rfl hl
  have v1:takeAll (newN d) ts=(aftN (newN d),es,0):=v1
  have r:=runL_runC l .out (newN d) 0 .out ts g1 (by rw[v1])
  rw[v1] at r
  have g:=runC_go l _ _ _ _ _ _ r
  have hc:closeN (aftN (newN d))=1:=rfl
  have he:endP .out (aftN (newN d)) (0+l.length)=([],closeN (aftN (newN d))):=rfl
  rw[he,hc] at g
  exact fin es es [] t' _ g (List.append_nil _) v2 v3
 ·obtain ⟨es,t',v1,v2,v3⟩:=val_tok t (ts++[⟨9,false,f,0+l.length,p⟩]) (newN d) (hT (0+l.length)) rfl rfl hl
  have v1:takeAll (newN d) (ts++[⟨9,false,f,0+l.length,p⟩])=(aftN (newN d),es,0):=v1
  obtain ⟨b1,b2,b3,b4⟩:=takeAll_app ts (newN d) [⟨9,false,f,0+l.length,p⟩] (by rw[v1])
  rw[v1] at b3 b4
  have r:=runL_runC l .out (newN d) 0 (.num a f p) ts g1 b1
  have g:=runC_go l _ _ _ _ _ _ r
  have ec:closeL (.num a f p) (0+l.length)=([⟨9,false,f,0+l.length,p⟩],1):=by show (if _ then _ else _)=_;rw[if_pos hw]
  have hc:closeN (takeAll (takeAll (newN d) ts).1 [⟨9,false,f,0+l.length,p⟩]).1=1:=by rw[← b3];rfl
  have he:endP (.num a f p) (takeAll (newN d) ts).1 (0+l.length)=((takeAll (takeAll (newN d) ts).1 [⟨9,false,f,0+l.length,p⟩]).2.1,1):=by
    unfold endP
    rw[ec]
    show (_,(if (1:Int)≠1 then (1:Int) else closeN (takeAll (takeAll (newN d) ts).1 [⟨9,false,f,0+l.length,p⟩]).1))=_
    rw[hc]
    rfl
  rw[he] at g
  exact fin es _ _ t' _ g b4.symm v2 v3
theorem show_back (t:Tree) (hG:GoodT t) (d:Int) (hd:depT t≤(newN d).most):(parseP (showT t) d).2.1=1∧sameT t (treeP (showT t) d)=true:=by
 obtain ⟨st,ts,g1,g2⟩:=show_run t hG 0
 exact text_back t (showT t) d hd st ts g1 g2
mutual
theorem show_same:∀ (t u:Tree),sameT t u=true→showT t=showT u
 | .mk k1 _ _ t1 i1 n1,.mk k2 _ _ t2 i2 n2,h=>by
   unfold sameT at h
   simp only [Bool.and_eq_true,decide_eq_true_eq] at h
   obtain ⟨⟨⟨rfl,rfl⟩,rfl⟩,h⟩:=h
   unfold showT
   rw[showA_same i1 i2 h,showO_same i1 i2 n1 h]
theorem showA_same:∀ (r s:List Tree),sameL r s=true→showA r=showA s
 | [],[],_=>rfl
 | [],_ :: _,h=>by unfold sameL at h;cases h
 | _ :: _,[],h=>by unfold sameL at h;cases h
 | t :: r,u :: s,h=>by
   unfold sameL at h
   simp only [Bool.and_eq_true] at h
   have he:r.isEmpty=s.isEmpty:=by
     have:=h.2
     cases r<;>cases s<;>first|rfl|(unfold sameL at this;cases this)
   unfold showA
   rw[show_same t u h.1,showA_same r s h.2,he]
theorem showO_same:∀ (r s:List Tree) (names:List (List UInt8)),sameL r s=true→showO r names=showO s names
 | [],[],_,_=>by unfold showO;rfl
 | [],_ :: _,_,h=>by unfold sameL at h;cases h
 | _ :: _,[],_,h=>by unfold sameL at h;cases h
 | t :: r,u :: s,names,h=>by
   unfold sameL at h
   simp only [Bool.and_eq_true] at h
   have he:r.isEmpty=s.isEmpty:=by
     have:=h.2
     cases r<;>cases s<;>first|rfl|(unfold sameL at this;cases this)
   unfold showO
   rw[show_same t u h.1,showO_same r s names.tail h.2,he]
end
end
section
theorem newL_app (d:Nat){s:List UInt8}{k:Nat}{st':LSt}{b:List Tok}(h:runL .out s (k+(newL d).length)=some (st',b)):runL .out (newL d++s) k=some (st',b):=runL_app (newL d) (newL_run d k) h
mutual
theorem line_run:∀ (t:Tree),GoodT t → ∀ d k,∃ st ts,runL .out (lineT d t) k=some (st,ts)∧EndT t ts st
 | .mk kd fr to tx [] names,h,d,k=>by
   have e:lineT d (.mk kd fr to tx [] names)=showT (.mk kd fr to tx [] names):=by (conv=>lhs;unfold lineT);rfl
   rw[e]
   exact show_run _ h k
 | .mk kd fr to tx (i :: is) names,h,d,k=>by
   unfold GoodT at h
   rcases h with ⟨rfl,rfl,rfl,hi⟩|⟨rfl,rfl,hn,hs,hi⟩|⟨h,_⟩
   ·have e:lineT d (.mk 4 fr to [] (i :: is) [])=91 :: (lineA d (i :: is)++10 :: (List.replicate (2*d) 32++[93])):=by (conv=>lhs;unfold lineT);rfl
    rw[e]
    have hz:runL .out (10 :: (List.replicate (2*d) 32++[93])) (k+1+(lineA d (i :: is)).length)=some (.out,[⟨3,false,k+1+(lineA d (i :: is)).length+(newL (2*d)).length,k+1+(lineA d (i :: is)).length+(newL (2*d)).length+1,[]⟩]):=newL_app (2*d) (s:=[93]) rfl
    obtain ⟨m,g1,g2⟩:=lineA_run (i :: is) hi d (k+1) 10 (.inr (.inr (.inr rfl))) _ _ _ hz
    have e2:stepL .out k 91=([⟨2,false,k,k+1,[]⟩],0,.out):=rfl
    refine ⟨_,_,runL_cons e2 g2,.inl ⟨rfl,?_⟩⟩
    unfold TokT
    exact .inl ⟨rfl,rfl,rfl,_,m,_,rfl,⟨rfl,rfl⟩,⟨rfl,rfl⟩,g1⟩
   ·have e:lineT d (.mk 5 fr to [] (i :: is) names)=123 :: (lineO d (i :: is) names++10 :: (List.replicate (2*d) 32++[125])):=by (conv=>lhs;unfold lineT);rfl
    rw[e]
    have hz:runL .out (10 :: (List.replicate (2*d) 32++[125])) (k+1+(lineO d (i :: is) names).length)=some (.out,[⟨5,false,k+1+(lineO d (i :: is) names).length+(newL (2*d)).length,k+1+(lineO d (i :: is) names).length+(newL (2*d)).length+1,[]⟩]):=newL_app (2*d) (s:=[125]) rfl
    obtain ⟨m,g1,g2⟩:=lineO_run (i :: is) names hi hn hs d (k+1) 10 (.inr (.inr (.inr rfl))) _ _ _ hz
    have e2:stepL .out k 123=([⟨4,false,k,k+1,[]⟩],0,.out):=rfl
    refine ⟨_,_,runL_cons e2 g2,.inl ⟨rfl,?_⟩⟩
    unfold TokT
    exact .inr (.inl ⟨rfl,rfl,_,m,_,rfl,⟨rfl,rfl⟩,⟨rfl,rfl⟩,g1⟩)
   ·cases h
theorem lineA_run:∀ (r:List Tree),GoodL r → ∀ (d k:Nat) (c:UInt8),sepB c → ∀ (rest:List UInt8) (st':LSt) (b:List Tok),runL .out (c :: rest) (k+(lineA d r).length)=some (st',b) → ∃ m,TokA r m∧runL .out (lineA d r++c :: rest) k=some (st',m++b)
 | [],h,d,k,c,hc,rest,st',b,hr=>by
   unfold lineA at hr ⊢
   exact ⟨[],by unfold TokA;rfl,hr⟩
 | t :: r,h,d,k,c,hc,rest,st',b,hr=>by
   unfold GoodL at h
   obtain ⟨st,ts,g1,g2⟩:=line_run t h.1 (d+1) (k+(newL (2*d+2)).length)
   cases r with
   | nil =>
     have e:lineA d [t]=newL (2*d+2)++lineT (d+1) t:=by unfold lineA;simp
     rw[e] at hr ⊢
     have hl:k+(newL (2*d+2)++lineT (d+1) t).length=k+(newL (2*d+2)).length+(lineT (d+1) t).length:=by rw[List.length_append];omega
     rw[hl] at hr
     obtain ⟨ts1,v1,v2⟩:=val_then t _ st ts _ g1 g2 c hc rest st' b hr
     refine ⟨ts1,by unfold TokA;exact ⟨ts1,[],(List.append_nil _).symm,v1,.inl ⟨rfl,rfl⟩⟩,?_⟩
     rw[List.append_assoc]
     exact newL_app _ v2
   | cons u r =>
     have e:lineA d (t :: u :: r)=newL (2*d+2)++(lineT (d+1) t++44 :: lineA d (u :: r)):=by (conv=>lhs;unfold lineA);rfl
     rw[e] at hr ⊢
     have hl:k+(newL (2*d+2)++(lineT (d+1) t++44 :: lineA d (u :: r))).length=k+(newL (2*d+2)).length+(lineT (d+1) t).length+1+(lineA d (u :: r)).length:=by simp only [List.length_append,List.length_cons];omega
     rw[hl] at hr
     obtain ⟨m,w1,w2⟩:=lineA_run (u :: r) h.2 d _ c hc rest st' b hr
     have e2:stepL .out (k+(newL (2*d+2)).length+(lineT (d+1) t).length) 44=([⟨6,false,k+(newL (2*d+2)).length+(lineT (d+1) t).length,k+(newL (2*d+2)).length+(lineT (d+1) t).length+1,[]⟩],0,.out):=rfl
     obtain ⟨ts1,v1,v2⟩:=val_then t _ st ts _ g1 g2 44 (.inl rfl) (lineA d (u :: r)++c :: rest) st' _ (runL_cons e2 w2)
     refine ⟨ts1++⟨6,false,k+(newL (2*d+2)).length+(lineT (d+1) t).length,k+(newL (2*d+2)).length+(lineT (d+1) t).length+1,[]⟩ :: m,?_,?_⟩
     rotate_left
     ·have e4:(newL (2*d+2)++(lineT (d+1) t++44 :: lineA d (u :: r)))++c :: rest=newL (2*d+2)++(lineT (d+1) t++44 :: (lineA d (u :: r)++c :: rest)):=by simp
      rw[e4,newL_app _ v2,List.append_assoc]
      rfl
     ·unfold TokA
      exact ⟨ts1,_,rfl,v1,.inr ⟨(by intro h;cases h),_,m,rfl,⟨rfl,rfl⟩,w1⟩⟩
theorem lineO_run:∀ (r:List Tree) (names:List (List UInt8)),GoodL r→names.length=r.length→(∀ s∈names,badU s = -1) → ∀ (d k:Nat) (c:UInt8),sepB c → ∀ (rest:List UInt8) (st':LSt) (b:List Tok),runL .out (c :: rest) (k+(lineO d r names).length)=some (st',b) → ∃ m,TokO r names m∧runL .out (lineO d r names++c :: rest) k=some (st',m++b)
 | [],names,h,hn,hs,d,k,c,hc,rest,st',b,hr=>by
   unfold lineO at hr ⊢
   exact ⟨[],by unfold TokO;exact ⟨List.length_eq_zero_iff.1 hn,rfl⟩,hr⟩
 | t :: r, names,h,hn,hs,d,k,c,hc,rest,st',b,hr=>by
   unfold GoodL at h
   cases names with
   | nil=>cases hn
   | cons s ns =>
     have hn:ns.length=r.length:=by simpa using hn
     have hs':∀ s∈ns,badU s = -1:=fun s h=>hs s (List.mem_cons_of_mem _ h)
     obtain ⟨k0,hk0⟩:∃ k0,k0=k+(newL (2*d+2)).length:=⟨_,rfl⟩
     obtain ⟨x,y,x1,x2,x3,x4,x5⟩:=strT_run s (hs s List.mem_cons_self) k0
     obtain ⟨st,ts,g1,g2⟩:=line_run t h.1 (d+1) (k0+(strT s).length+1+1)
     have e2:stepL .out (k0+(strT s).length) 58=([⟨7,false,k0+(strT s).length,k0+(strT s).length+1,[]⟩],0,.out):=rfl
     have e3:stepL .out (k0+(strT s).length+1) 32=([],0,.out):=rfl
     cases r with
     | nil =>
       obtain rfl:ns=[]:=List.length_eq_zero_iff.1 hn
       have e:lineO d [t] [s]=newL (2*d+2)++(strT s++58 :: 32 :: lineT (d+1) t):=by unfold lineO;simp
       rw[e] at hr ⊢
       have hl:k+(newL (2*d+2)++(strT s++58 :: 32 :: lineT (d+1) t)).length=k0+(strT s).length+1+1+(lineT (d+1) t).length:=by rw[hk0];simp only [List.length_append,List.length_cons];omega
       rw[hl] at hr
       obtain ⟨ts1,v1,v2⟩:=val_then t _ st ts _ g1 g2 c hc rest st' b hr
       have w:=runL_app (strT s) x1 (runL_cons e2 (runL_cons e3 v2))
       rw[hk0] at w
       refine ⟨x :: y :: ⟨7,false,k0+(strT s).length,k0+(strT s).length+1,[]⟩ :: (ts1++[]),?_,?_⟩
       ·unfold TokO
        exact ⟨s,[],x,y,_,ts1,[],rfl,rfl,x2,x3,x4,⟨rfl,rfl⟩,v1,.inl ⟨rfl,rfl,rfl⟩⟩
       ·have e4:(newL (2*d+2)++(strT s++58 :: 32 :: lineT (d+1) t))++c :: rest=newL (2*d+2)++(strT s++58 :: 32 :: (lineT (d+1) t++c :: rest)):=by simp
        rw[e4,newL_app _ w,hk0]
        simp
     | cons u r =>
       have e:lineO d (t :: u :: r) (s :: ns)=newL (2*d+2)++(strT s++58 :: 32 :: (lineT (d+1) t++44 :: lineO d (u :: r) ns)):=by (conv=>lhs;unfold lineO);rfl
       rw[e] at hr ⊢
       have hl:k+(newL (2*d+2)++(strT s++58 :: 32 :: (lineT (d+1) t++44 :: lineO d (u :: r) ns))).length=k0+(strT s).length+1+1+(lineT (d+1) t).length+1+(lineO d (u :: r) ns).length:=by rw[hk0];simp only [List.length_append,List.length_cons];omega
       rw[hl] at hr
       obtain ⟨m,w1,w2⟩:=lineO_run (u :: r) ns h.2 hn hs' d _ c hc rest st' b hr
       have e5:stepL .out (k0+(strT s).length+1+1+(lineT (d+1) t).length) 44=([⟨6,false,k0+(strT s).length+1+1+(lineT (d+1) t).length,k0+(strT s).length+1+1+(lineT (d+1) t).length+1,[]⟩],0,.out):=rfl
       obtain ⟨ts1,v1,v2⟩:=val_then t _ st ts _ g1 g2 44 (.inl rfl) (lineO d (u :: r) ns++c :: rest) st' _ (runL_cons e5 w2)
       have w:=runL_app (strT s) x1 (runL_cons e2 (runL_cons e3 v2))
       rw[hk0] at w
       refine ⟨x :: y :: ⟨7,false,k0+(strT s).length,k0+(strT s).length+1,[]⟩ :: (ts1++⟨6,false,k0+(strT s).length+1+1+(lineT (d+1) t).length,k0+(strT s).length+1+1+(lineT (d+1) t).length+1,[]⟩ :: m),?_,?_⟩
       ·unfold TokO
        exact ⟨s,ns,x,y,_,ts1,_,rfl,rfl,x2,x3,x4,⟨rfl,rfl⟩,v1,.inr ⟨(by intro h;cases h),_,m,rfl,⟨rfl,rfl⟩,w1⟩⟩
       ·have e4:(newL (2*d+2)++(strT s++58 :: 32 :: (lineT (d+1) t++44 :: lineO d (u :: r) ns)))++c :: rest=newL (2*d+2)++(strT s++58 :: 32 :: (lineT (d+1) t++44 :: (lineO d (u :: r) ns++c :: rest))):=by simp
        rw[e4,newL_app _ w,hk0]
        simp
end
theorem line_back (t:Tree) (hG:GoodT t) (d:Int) (hd:depT t≤(newN d).most):(parseP (lineT 0 t) d).2.1=1∧sameT t (treeP (lineT 0 t) d)=true:=by
 obtain ⟨st,ts,g1,g2⟩:=line_run t hG 0 0
 exact text_back t (lineT 0 t) d hd st ts g1 g2
end
section
def TxOk (t:Tok):Prop:=t.begun=false→(t.kind=8→badU t.text = -1)∧(t.kind=9 → ∃ c r a,t.text=c :: r∧kindI c.toNat=9∧numA (nxI 0 c.toNat) r=some a∧whI a=true)∧(t.kind=10→t.text=lT∨t.text=lF∨t.text=lN)
def StpG (op:List Opn) (s:Stp):Prop:=match op with
 | []=>True
 | o :: _=>s.named=o.obj∧(o.obj=true→badU s.name = -1)
def NodeOk (most:Nat) (q:List Opn) (o:Opn) (p:Tree):Prop :=
 GoodL p.items∧(o.obj=true→p.names.length=p.items.length ∧ ∀ s∈p.names,badU s = -1)∧(o.obj=false→p.names=[])∧depL p.items+q.length+1≤most
def Al (most:Nat):List Opn→List (Tree×Stp)→Prop
 | [],r=>r=[]
 | o :: q,r => ∃ p ps r',r=(p,ps) :: r'∧NodeOk most q o p∧StpG q ps∧Al most q r'
def MayOk (n:Nst):Prop:=match n.may with
 | .value => ∀ o q,n.op=o :: q→o.obj=true→badU o.name = -1
 | .item => ∃ o q,n.op=o :: q∧o.obj=false
 | .member => ∃ o q,n.op=o :: q∧o.obj=true
 | .name => ∃ o q,n.op=o :: q∧o.obj=true
 | .colon => ∃ o q,n.op=o :: q∧o.obj=true∧badU o.name = -1
 | _=>True
def OpOk (most:Nat) (n:Nst) (b:Bld):Prop :=
 if n.begun≠0∧n.may.val=true then ∃ y s r,b.op=(y,s) :: r∧y.items=[]∧y.names=[]∧StpG n.op s∧Al most n.op r else Al most n.op b.op
structure GI (most:Nat) (n:Nst) (b:Bld):Prop where
 mst:n.most=most
 root:∀ t,b.root=some t→GoodT t∧depT t≤most
 deep:n.op.length≤most
 may:MayOk n
 beg:n.begun≠0→n.may.val=true∨n.may.nam=true
 nam:n.begun≠0→n.may.nam=true→n.begun=8
 op:OpOk most n b
 noth:n.may.isNothing=true → ∃ t,b.root=some t
theorem al_more (most:Nat) (op:List Opn) (r:List (Tree×Stp)) (h:Al most op r):Al most (moreO op) r:=by
 cases op with
 | nil=>exact h
 | cons o q=>exact h
theorem al_name (most:Nat) (x:List UInt8) (op:List Opn) (r:List (Tree×Stp)) (h:Al most op r):Al most (nameO x op) r:=by
 cases op with
 | nil=>exact h
 | cons o q=>exact h
theorem step_ok (n:Nst) (hm:MayOk n) (hv:n.may.val=true):StpG n.op (stepO n.op):=by
 obtain ⟨most,op,may,begun,came⟩:=n
 cases op with
 | nil=>trivial
 | cons o q =>
   have e:stepO (o :: q)=if o.obj then ⟨true,o.name,0⟩ else ⟨false,[],o.many⟩:=rfl
   show (stepO (o :: q)).named=o.obj∧(o.obj=true→badU (stepO (o :: q)).name = -1)
   rw[e]
   cases ho:o.obj
   ·exact ⟨rfl,fun h=>by cases h⟩
   ·refine ⟨rfl,fun _ => ?_⟩
    cases may<;>first
      | (cases hv;done)
      | exact hm o q rfl ho
      | (obtain ⟨o',q',h1,h2⟩:=hm
         injection h1 with h1 h3
         rw[h1,h2] at ho
         cases ho)
theorem goodL_app (ts:List Tree) (y:Tree) (h:GoodL ts) (g:GoodT y):GoodL (ts++[y]):=by
 induction ts with
 | nil=>rw[List.nil_append];unfold GoodL;exact ⟨g,by unfold GoodL;trivial⟩
 | cons t ts ih=>rw[List.cons_append];unfold GoodL at h ⊢;exact ⟨h.1,ih h.2⟩
theorem depL_app (ts:List Tree) (y:Tree) (m:Nat) (h:depL ts≤m) (g:depT y≤m):depL (ts++[y])≤m:=by
 induction ts with
 | nil=>rw[List.nil_append];unfold depL;exact Nat.max_le.2 ⟨g,by unfold depL;omega⟩
 | cons t ts ih=>rw[List.cons_append];unfold depL at h ⊢;exact Nat.max_le.2 ⟨(Nat.max_le.1 h).1,ih (Nat.max_le.1 h).2⟩
theorem put_ok (most:Nat) (q:List Opn) (r:List (Tree×Stp)) (y:Tree) (s:Stp) (rt:Option Tree) (e:Evt) (he:¬ e.kind=1) (hA:Al most q r) (hs:StpG q s) (hG:GoodT (finT e y)) (hd:depT (finT e y)+q.length≤most)
   (hr:∀ t,rt=some t→GoodT t∧depT t≤most):Al most q (bldE ⟨(y,s) :: r,rt⟩ e).op∧(∀ t,(bldE ⟨(y,s) :: r,rt⟩ e).root=some t→GoodT t∧depT t≤most)∧(q=[] → ∃ t,(bldE ⟨(y,s) :: r,rt⟩ e).root=some t):=by
 cases q with
 | nil =>
   obtain rfl:r=[]:=hA
   rw[bldE_last y s rt e he]
   exact ⟨rfl,(fun t h=>by injection h with h;rw[← h];exact ⟨hG,hd⟩),fun _=>⟨_,rfl⟩⟩
 | cons o q =>
   obtain ⟨p,ps,r',rfl,⟨n1,n2,n3,n4⟩,hps,hA⟩:=hA
   obtain ⟨s1,s2⟩:=hs
   have hB:=bldE_close y s [] p ps r' rt e he
   rw[List.nil_append] at hB
   rw[hB]
   refine ⟨⟨addT (finT e y) s p,ps,r',rfl,⟨?_,fun ho => ?_,fun ho => ?_,?_⟩,hps,hA⟩,hr,fun h=>by cases h⟩
   ·rw[addT_items];exact goodL_app _ _ n1 hG
   ·obtain ⟨pk,pf,pt,px,pi,pn⟩:=p
    have e1:(addT (finT e y) s (.mk pk pf pt px pi pn)).names=if s.named then pn++[s.name] else pn:=rfl
    rw[e1,addT_items,s1,ho]
    obtain ⟨m1,m2⟩:=n2 ho
    refine ⟨?_,fun x hx => ?_⟩
    ·have m1:pn.length=pi.length:=m1
     show (pn++[s.name]).length=(pi++[_]).length
     simp[m1]
    ·have hx:x∈pn++[s.name]:=hx
     rcases List.mem_append.1 hx with h|h
     ·exact m2 x h
     ·rw[List.mem_singleton.1 h];exact s2 ho
   ·obtain ⟨pk,pf,pt,px,pi,pn⟩:=p
    have e1:(addT (finT e y) s (.mk pk pf pt px pi pn)).names=if s.named then pn++[s.name] else pn:=rfl
    rw[e1,s1,ho]
    exact n3 ho
   ·rw[addT_items]
    have hd:depT (finT e y)+(q.length+1)≤most:=hd
    have:=depL_app p.items (finT e y) (most-q.length-1) (by omega) (by omega)
    omega
end
section
theorem takeO_six (n:Nst) (t:Tok) (hf:(takeO n t).2.2=0) :
   (t.begun=true∧n.may.nam=true∧t.kind=8∧takeO n t=({ n with begun:=8,came:=true },[],0)) ∨
   (t.begun=true∧n.may.val=true∧takeO n t=({ n with begun:=t.kind,came:=true },[⟨1,beginK t.kind,t.fr,0,stepO n.op,[]⟩],0)) ∨
   (t.begun=false∧n.may.val=true∧n.op.length<n.most∧takeO n t=({ n with op:=⟨decide (t.kind=4),t.fr,stepO n.op,0,[]⟩ :: n.op,may:=if t.kind=4 then .member else .item,came:=true },[⟨1,t.kind/4+4,t.fr,0,stepO n.op,[]⟩],0)) ∨
   (t.begun=false ∧ ∃ o r m,n.op=o :: r∧takeO n t=({ endedN (⟨n.most,r,m,n.begun,n.came⟩:Nst) with came:=true },[⟨2,o.kd,o.fr,t.to,o.step,[]⟩],0)) ∨
   (t.begun=false ∧ ∃ o r,n.op=o :: r∧takeO n t=({ n with may:=if o.obj then .name else .value,came:=true },[],0)) ∨
   (t.begun=false∧n.may=.colon∧takeO n t=({ n with may:=.value,came:=true },[],0)):=by
 obtain ⟨most,op,may,begun,came⟩:=n
 obtain ⟨kd,bg,fr,to,tx⟩:=t
 cases may<;>first
   | (exact absurd hf (by unfold takeO;decide))
   | skip
 all_goals
   unfold takeO at hf ⊢
   simp only [] at hf ⊢
   revert hf
   (repeat' split)<;>intro hf<;>first
     | exact absurd hf (by show (8:Int)≠0;decide)
     | exact absurd hf (by show (12:Int)≠0;decide)
     | exact absurd hf (by show (9:Int)≠0;decide)
     | (exfalso;simp_all [May.val,May.nam];done)
     | exact .inl ⟨by assumption,rfl,(‹kd=8∧_›).1,rfl⟩
     | exact .inr (.inl ⟨by assumption,rfl,rfl⟩)
     | exact .inr (.inr (.inl ⟨Bool.eq_false_iff.2 (by assumption),rfl,Nat.lt_of_not_le (by assumption),rfl⟩))
     | exact .inr (.inr (.inr (.inl ⟨Bool.eq_false_iff.2 (by assumption),_,_,_,rfl,rfl⟩)))
     | exact .inr (.inr (.inr (.inr (.inl ⟨Bool.eq_false_iff.2 (by assumption),_,_,rfl,by simp_all⟩))))
     | exact .inr (.inr (.inr (.inr (.inr ⟨Bool.eq_false_iff.2 (by assumption),by first|rfl|trivial,rfl⟩))))
theorem nam_val {m:May}(h:m.nam=true):¬ m.val=true:=by cases m<;>first|(cases h;done)|decide
theorem may_ended (most:Nat) (r:List Opn) (m:May) (b:Int) (c c':Bool):MayOk ({ endedN (⟨most,r,m,b,c⟩:Nst) with came:=c' }:Nst)∧({ endedN (⟨most,r,m,b,c⟩:Nst) with came:=c' }:Nst).may.val=false∧({ endedN (⟨most,r,m,b,c⟩:Nst) with came:=c' }:Nst).may.nam=false:=by
 cases r<;>exact ⟨trivial,rfl,rfl⟩
theorem opOk_ne {most:Nat}{n:Nst}{b:Bld}(h:¬ (n.begun≠0∧n.may.val=true)):OpOk most n b↔Al most n.op b.op:=by unfold OpOk;rw[if_neg h]
theorem opOk_in {most:Nat}{n:Nst}{b:Bld}(h:n.begun≠0∧n.may.val=true):OpOk most n b ↔ ∃ y s r,b.op=(y,s) :: r∧y.items=[]∧y.names=[]∧StpG n.op s∧Al most n.op r:=by unfold OpOk;rw[if_pos h]
theorem opOk_mk {most:Nat}{n:Nst}{b:Bld}(h:¬ (n.begun≠0∧n.may.val=true))(g:Al most n.op b.op):OpOk most n b:=(opOk_ne h).2 g
theorem opOk_mk2 {most:Nat}{n:Nst}{b:Bld}(h:n.begun≠0∧n.may.val=true)(g:∃ y s r,b.op=(y,s) :: r∧y.items=[]∧y.names=[]∧StpG n.op s∧Al most n.op r):OpOk most n b:=(opOk_in h).2 g
theorem good_scal (e:Evt) (y:Tree) (t:Tok) (hi:y.items=[]) (hn:y.names=[]) (hx:TxOk t) (hb:t.begun=false) (hk:t.kind=8∨t.kind=9∨t.kind=10) (he:e.value=scalarK t) (htx:e.text=t.text):GoodT (finT e y)∧depT (finT e y)=0:=by
 obtain ⟨kd,fr,to,tx,items,names⟩:=y
 have hi:items=[]:=hi
 have hn:names=[]:=hn
 subst hi hn
 have ef:finT e (.mk kd fr to tx [] [])=.mk e.value fr e.to e.text [] []:=rfl
 obtain ⟨h8,h9,h10⟩:=hx hb
 rw[ef,he,htx]
 have hs:(scalarK t=3∧badU t.text = -1)∨(scalarK t=2 ∧ ∃ c r a,t.text=c :: r∧kindI c.toNat=9∧numA (nxI 0 c.toNat) r=some a∧whI a=true)∨(scalarK t=1∧(t.text=lT∨t.text=lF))∨(scalarK t=0∧t.text=lN):=by
   rcases hk with hk|hk|hk
   ·exact .inl ⟨by unfold scalarK;rw[if_pos hk],h8 hk⟩
   ·exact .inr (.inl ⟨by unfold scalarK;rw[if_neg (by rw[hk];decide),if_pos hk],h9 hk⟩)
   ·have e0:scalarK t=if t.text=lN then 0 else 1:=by unfold scalarK;rw[if_neg (by rw[hk];decide),if_neg (by rw[hk];decide)]
    rcases h10 hk with h|h|h
    ·exact .inr (.inr (.inl ⟨by rw[e0,h];rfl,.inl h⟩))
    ·exact .inr (.inr (.inl ⟨by rw[e0,h];rfl,.inr h⟩))
    ·exact .inr (.inr (.inr ⟨by rw[e0,h];rfl,h⟩))
 refine ⟨?_,?_⟩
 ·unfold GoodT
  exact .inr (.inr ⟨rfl,rfl,hs⟩)
 ·unfold depT
  rw[if_neg]
  rcases hs with ⟨h,_⟩|⟨h,_⟩|⟨h,_⟩|⟨h,_⟩<;>rw[h]<;>decide
theorem good_node (most:Nat) (q:List Opn) (o:Opn) (p:Tree) (e:Evt) (h:NodeOk most q o p) (hv:e.value=o.kd) (ht:e.text=[]):GoodT (finT e p)∧depT (finT e p)+q.length≤most:=by
 obtain ⟨kd,fr,to,tx,items,names⟩:=p
 obtain ⟨h1,h2,h3,h4⟩:=h
 have h1:GoodL items:=h1
 have h4:depL items+q.length+1≤most:=h4
 have ef:finT e (.mk kd fr to tx items names)=.mk e.value fr e.to e.text items names:=rfl
 rw[ef,hv,ht]
 have hk:o.kd=if o.obj then 5 else 4:=rfl
 refine ⟨?_,?_⟩
 ·unfold GoodT
  cases ho:o.obj
  ·rw[hk,ho]
   exact .inl ⟨rfl,rfl,h3 ho,h1⟩
  ·rw[hk,ho]
   exact .inr (.inl ⟨rfl,rfl,(h2 ho).1,(h2 ho).2,h1⟩)
 ·unfold depT
  rw[if_pos (by rw[hk];cases o.obj<;>simp)]
  omega
theorem good_tok (most:Nat) (n:Nst) (b:Bld) (t:Tok) (I:GI most n b) (h0:n.begun=0→t.begun=true→t.kind≠0) (h1:n.begun≠0→t.begun=false∧t.kind=n.begun∧(t.kind=8∨t.kind=9∨t.kind=10)) (hx:TxOk t) (hf:(takeN n t).2.2=0) :
   GI most (takeN n t).1 (bldA b (takeN n t).2.1):=by
 obtain ⟨I1,I2,I3,I4,I5,I6,I7,I8⟩:=I
 by_cases hb:n.begun=0
 ·have e : takeN n t=takeO n t:=by unfold takeN;rw[if_pos hb]
  rw[e] at hf ⊢
  rw[opOk_ne (fun h=>h.1 hb)] at I7
  rcases takeO_six n t hf with ⟨a1,a2,_,a3⟩|⟨a1,a2,a3⟩|⟨_,a1,a2,a3⟩|⟨_,o,r,m,a1,a2⟩|⟨_,o,r,a1,a2⟩|⟨_,a1,a2⟩
  ·rw[a3]
   exact ⟨I1,I2,I3,I4,fun _=>.inr a2,fun _ _=>rfl,opOk_mk (fun h=>nam_val a2 h.2) I7,I8⟩
  ·rw[a3]
   have hk:=h0 hb a1
   have hB:bldA b [⟨1,beginK t.kind,t.fr,0,stepO n.op,[]⟩]=⟨(.mk (beginK t.kind) t.fr 0 [] [] [],stepO n.op) :: b.op,b.root⟩:=bldE_open b.op b.root ⟨1,beginK t.kind,t.fr,0,stepO n.op,[]⟩ rfl
   simp only [hB]
   exact ⟨I1,I2,I3,I4,fun _=>.inl a2,fun _ h=>absurd h (val_nam a2),opOk_mk2 ⟨hk,a2⟩ ⟨_,_,_,rfl,rfl,rfl,step_ok n I4 a2,I7⟩,I8⟩
  ·rw [a3]
   have hB:bldA b [⟨1,t.kind/4+4,t.fr,0,stepO n.op,[]⟩]=⟨(.mk (t.kind/4+4) t.fr 0 [] [] [],stepO n.op) :: b.op,b.root⟩:=bldE_open b.op b.root ⟨1,t.kind/4+4,t.fr,0,stepO n.op,[]⟩ rfl
   simp only [hB]
   refine ⟨I1,I2,by show n.op.length+1≤most;omega,?_,fun h=>absurd hb h,fun h=>absurd hb h,opOk_mk (fun h=>h.1 hb) ⟨_,_,_,rfl,⟨by show GoodL [];unfold GoodL;trivial,fun _=>⟨rfl,fun s h=>by cases h⟩,fun _=>rfl,?_⟩,step_ok n I4 a1,I7⟩,fun h => ?_⟩
   ·by_cases h4:t.kind=4
    ·simp only [h4]
     exact ⟨_,_,rfl,rfl⟩
    ·simp only [h4]
     exact ⟨_,_,rfl,rfl⟩
   ·show depL []+n.op.length+1≤most
    unfold depL
    omega
   ·exfalso
    revert h
    show (if t.kind=4 then May.member else May.item).isNothing=true→False
    split<;>intro h<;>cases h
  ·rw[a2]
   rw[a1] at I7 I3
   obtain ⟨p,ps,r',g1,g2,g3,g4⟩:=I7
   obtain ⟨gn,gd⟩:=good_node most r o p ⟨2,o.kd,o.fr,t.to,o.step,[]⟩ g2 rfl rfl
   obtain ⟨w1,w2,w3⟩:=put_ok most r r' p ps b.root ⟨2,o.kd,o.fr,t.to,o.step,[]⟩ (show ¬ (2:Int)=1 by decide) g4 g3 gn gd I2
   obtain ⟨m1,m2,m3⟩:=may_ended n.most r m n.begun n.came true
   have hop:bldA b [⟨2,o.kd,o.fr,t.to,o.step,[]⟩]=bldE ⟨(p,ps) :: r',b.root⟩ ⟨2,o.kd,o.fr,t.to,o.step,[]⟩:=by rw[← g1];rfl
   simp only [hop]
   have hl:(moreO r).length≤most:=by rw[more_len];have:r.length+1≤most:=I3;omega
   refine ⟨I1,w2,hl,m1,fun h=>absurd hb h,fun h=>absurd hb h,opOk_mk (fun h=>h.1 hb) (al_more most r _ w1),fun h=>w3 ?_⟩
   cases r with
   | nil=>rfl
   | cons _ _=>cases h
  ·rw [a2]
   refine ⟨I1,I2,I3,?_,fun h=>absurd hb h,fun h=>absurd hb h,opOk_mk (fun h=>h.1 hb) I7,fun h => ?_⟩
   rotate_left
   ·exfalso
    revert h
    show (if o.obj then May.name else May.value).isNothing=true→False
    split<;>intro h<;>cases h
   cases ho:o.obj
   ·exact fun o' q' h ho'=>by
      have h:n.op=o' :: q':=h
      rw[a1] at h
      injection h with h _
      rw[h,ho'] at ho
      cases ho
   ·exact ⟨o,r,a1,ho⟩
  ·rw [a2]
   refine ⟨I1,I2,I3,?_,fun h=>absurd hb h,fun h=>absurd hb h,opOk_mk (fun h=>h.1 hb) I7,fun h=>by cases h⟩
   have I4':∃ o q,n.op=o :: q∧o.obj=true∧badU o.name = -1:=by
     unfold MayOk at I4
     rw[a1] at I4
     exact I4
   obtain ⟨o,q,q1,q2,q3⟩:=I4'
   exact fun o' q' h _=>by
     have h:n.op=o' :: q':=h
     rw[q1] at h
     injection h with h _
     rw[← h]
     exact q3
 ·obtain ⟨t1,t2,t3⟩:=h1 hb
  by_cases hn:n.may.nam=true
  ·have e:takeN n t=({ n with begun:=0,op:=nameO t.text n.op,may:=.colon },[],0):=by unfold takeN;rw[if_neg hb,if_pos hn]
   rw[e]
   rw[opOk_ne (fun h=>nam_val hn h.2)] at I7
   have h8:t.kind=8:=t2.trans (I6 hb hn)
   refine ⟨I1,I2,by show (nameO t.text n.op).length≤most;rw[name_len];exact I3,?_,fun h=>absurd rfl h,fun h=>absurd rfl h,opOk_mk (fun h=>h.1 rfl) (al_name most _ _ _ I7),fun h=>by cases h⟩
   have : ∃ o q,n.op=o :: q∧o.obj=true:=by
     unfold MayOk at I4
     cases hm:n.may<;>rw[hm] at hn I4<;>first
       | (cases hn;done)
       | exact I4
   obtain ⟨o,q,q1,q2⟩:=this
   exact ⟨{ o with name:=t.text },q,by show nameO t.text n.op=_;rw[q1];rfl,q2,(hx t1).1 h8⟩
  ·have hv:n.may.val=true:=(I5 hb).resolve_right hn
   have e:=val_end n t hb hv
   rw[e]
   rw[opOk_in ⟨hb,hv⟩] at I7
   obtain ⟨y,s,r,g1,g2,g3,g4,g5⟩:=I7
   obtain ⟨gn,gd⟩:=good_scal ⟨2,scalarK t,t.fr,t.to,stepO n.op,t.text⟩ y t g2 g3 hx t1 t3 rfl rfl
   obtain ⟨w1,w2,w3⟩:=put_ok most n.op r y s b.root ⟨2,scalarK t,t.fr,t.to,stepO n.op,t.text⟩ (show ¬ (2:Int)=1 by decide) g5 g4 gn (by omega) I2
   have hop:bldA b [⟨2,scalarK t,t.fr,t.to,stepO n.op,t.text⟩]=bldE ⟨(y,s) :: r,b.root⟩ ⟨2,scalarK t,t.fr,t.to,stepO n.op,t.text⟩:=by rw[← g1];rfl
   simp only [hop]
   have hl:(moreO n.op).length≤most:=by rw[more_len];exact I3
   have m1:MayOk ({ endedN n with begun:=0 }:Nst):=by
     obtain ⟨nm,nop,nmay,nb,nc⟩:=n
     cases nop<;>trivial
   refine ⟨I1,w2,hl,m1,fun h=>absurd rfl h,fun h=>absurd rfl h,opOk_mk (fun h=>h.1 rfl) (al_more most n.op _ w1),fun h=>w3 ?_⟩
   have h:(if n.op.isEmpty then May.nothing else May.next).isNothing=true:=h
   cases hop':n.op with
   | nil=>rfl
   | cons _ _=>rw[hop'] at h;cases h
end
section
def LOk:LSt→Prop
 | .num a _ p => ∃ c r,p=c :: r∧kindI c.toNat=9∧numA (nxI 0 c.toNat) r=some a
 | .str q _ acc=>WQ q∧badU acc = -1
 | _=>True
theorem numA_snoc (r:List UInt8) (c:UInt8):∀ (a b:Int),numA a r=some b→nxI b c.toNat≠0→numA a (r++[c])=some (nxI b c.toNat):=by
 induction r with
 | nil =>
   intro a b h hn
   cases h
   show (if nxI a c.toNat≠0 then some (nxI a c.toNat) else none)=_
   rw[if_pos hn]
 | cons x r ih =>
   intro a b h hn
   have h:(if nxI a x.toNat≠0 then numA (nxI a x.toNat) r else none)=some b:=h
   by_cases hx:nxI a x.toNat≠0
   ·rw[if_pos hx] at h
    show (if nxI a x.toNat≠0 then numA (nxI a x.toNat) (r++[c]) else none)=_
    rw[if_pos hx]
    exact ih _ _ h hn
   ·rw[if_neg hx] at h;cases h
theorem out_tx (k:Nat) (c:UInt8) (hf:(outL k c).2.1=0):LOk (outL k c).2.2 ∧ ∀ t∈(outL k c).1,TxOk t:=by
 have one:∀ t:Tok,(t.begun=true∨t.kind<8) → ∀ x∈[t],TxOk x:=by
   intro t h x hx
   rw[List.mem_singleton.1 hx]
   intro hb
   rcases h with h|h
   ·rw[h] at hb;cases hb
   ·exact ⟨fun e=>by omega,fun e=>by omega,fun e=>by omega⟩
 unfold outL at hf ⊢
 split at hf
 ·rename_i h;rw[if_pos h];exact ⟨trivial,fun t h=>by cases h⟩
 ·rename_i h;rw[if_neg h]
  split at hf
  ·exact absurd hf (show (8:Int)≠0 by decide)
  ·rename_i h;rw[if_neg h]
   split at hf
   ·rename_i h;rw[if_pos h];exact ⟨trivial,one _ (.inr h)⟩
   ·rename_i h;rw[if_neg h]
    split at hf
    ·rename_i h;rw[if_pos h];exact ⟨⟨trivial,rfl⟩,one _ (.inl rfl)⟩
    ·rename_i h;rw[if_neg h]
     split at hf
     ·rename_i h;rw[if_pos h];exact ⟨⟨c,[],rfl,h,rfl⟩,one _ (.inl rfl)⟩
     ·rename_i h;rw[if_neg h];exact ⟨trivial,one _ (.inl rfl)⟩
theorem num_tx (a:Int) (f k:Nat) (p:List UInt8) (h:LOk (.num a f p)) (hw:whI a=true):TxOk ⟨9,false,f,k,p⟩:=by
 obtain ⟨c,r,h1,h2,h3⟩:=h
 exact fun _=>⟨(fun e=>by cases e),fun _=>⟨c,r,a,h1,h2,h3,hw⟩,fun e=>by cases e⟩
theorem lex_tx (st:LSt) (k:Nat) (c:UInt8) (h:LOk st) (hf:(stepL st k c).2.1=0):LOk (stepL st k c).2.2 ∧ ∀ t∈(stepL st k c).1,TxOk t:=by
 cases st with
 | dead=>exact absurd hf (show (14:Int)≠0 by decide)
 | out=>exact out_tx k c hf
 | num a f p =>
   have e:stepL (.num a f p) k c=if nxI a c.toNat≠0 then ([],0,.num (nxI a c.toNat) f (p++[c])) else
     if whI a && !stickI c.toNat then (⟨9,false,f,k,p⟩ :: (outL k c).1,(outL k c).2.1,(outL k c).2.2) else ([],5,.dead):=rfl
   rw[e] at hf ⊢
   by_cases h1:nxI a c.toNat≠0
   ·rw[if_pos h1]
    obtain ⟨x,r,h2,h3,h4⟩:=h
    exact ⟨⟨x,r++[c],by rw[h2];rfl,h3,numA_snoc r c _ _ h4 h1⟩,fun t h=>by cases h⟩
   ·rw [if_neg h1] at hf ⊢
    by_cases h2:(whI a && !stickI c.toNat)=true
    ·rw[if_pos h2] at hf ⊢
     obtain ⟨g1,g2⟩:=out_tx k c hf
     refine ⟨g1,fun t ht => ?_⟩
     rcases List.mem_cons.1 ht with rfl|ht
     ·exact num_tx a f k p h (Bool.and_eq_true _ _▸h2).1
     ·exact g2 t ht
    ·rw[if_neg h2] at hf
     exact absurd hf (show (5:Int)≠0 by decide)
 | word f p =>
   have e:stepL (.word f p) k c=if refL (p++[c])=2 then ([],6,.dead) else if refL (p++[c])=1 then ([⟨10,false,f,k+1,p++[c]⟩],0,.out) else ([],0,.word f (p++[c])):=rfl
   rw[e] at hf ⊢
   by_cases h2:refL (p++[c])=2
   ·rw[if_pos h2] at hf
    exact absurd hf (show (6:Int)≠0 by decide)
   ·rw [if_neg h2]
    by_cases h1:refL (p++[c])=1
    ·rw[if_pos h1]
     refine ⟨trivial,fun t ht => ?_⟩
     rw[List.mem_singleton.1 ht]
     exact fun _=>⟨(fun e=>by cases e),(fun e=>by cases e),fun _=>ref_one h1⟩
    ·rw[if_neg h1]
     exact ⟨trivial,fun t h=>by cases h⟩
 | str q f acc =>
   obtain ⟨hw,ha⟩:=h
   have e:stepL (.str q f acc) k c=strL q f acc k c (stepQ q c):=rfl
   rw[e] at hf ⊢
   cases hs:stepQ q c with
   | none =>
     rw[hs] at hf
     exact absurd hf (faultQ_fk q c).1
   | some x =>
     obtain ⟨q',y⟩:=x
     obtain ⟨g1,g2⟩:=stepQ_ok hw hs
     by_cases hd:q'=.done
     ·subst hd
      refine ⟨trivial,fun t ht => ?_⟩
      have ht:t∈[(⟨8,false,f,k+1,acc++y⟩:Tok)]:=ht
      rw[List.mem_singleton.1 ht]
      exact fun _=>⟨fun _=>bad_cat ha g2,(fun e=>by cases e),fun e=>by cases e⟩
     ·have e':strL q f acc k c (some (q',y))=([],0,.str q' f (acc++y)):=by cases q'<;>first|rfl|exact absurd rfl hd
      rw[e']
      exact ⟨⟨g1,bad_cat ha g2⟩,fun t h=>by cases h⟩
def PdOk (n:Nst) (p:Option (Int×Nat)):Prop:=match p with
 | none=>n.begun=0
 | some (k,_)=>n.begun=k∧(k=8∨k=9∨k=10)
theorem pd_tok (n:Nst) (t:Tok) (p:Option (Int×Nat)) (h:PdOk n p) (hw:okW p t) (hf:(takeN n t).2.2=0):PdOk (takeN n t).1 (nextW t):=by
 cases p with
 | none =>
   have hb:n.begun=0:=h
   have e:takeN n t=takeO n t:=by unfold takeN;rw[if_pos hb]
   rw[e] at hf ⊢
   have nx:∀ x:Bool,t.begun=x→nextW t=if x then some (t.kind,t.fr) else none:=fun x hx=>by unfold nextW;rw[hx]
   have beg:t.begun=true→(t.kind=8∨t.kind=9∨t.kind=10):=fun hb=>by
     have hw:if t.begun then 8≤t.kind∧t.kind≤10 else 2≤t.kind∧t.kind≤7:=hw
     rw[hb] at hw
     have hw:8≤t.kind∧t.kind≤10:=hw
     omega
   rcases takeO_six n t hf with ⟨a1,a2,a4,a3⟩|⟨a1,a2,a3⟩|⟨a0,a1,a2,a3⟩|⟨a0,o,r,m,a1,a3⟩|⟨a0,o,r,a1,a3⟩|⟨a0,a1,a3⟩
   ·rw[a3,nx true a1]
    exact ⟨a4.symm,beg a1⟩
   ·rw[a3,nx true a1]
    exact ⟨rfl,beg a1⟩
   all_goals
     rw[a3,nx false a0]
     exact hb
 | some x =>
   obtain ⟨k,f⟩:=x
   obtain ⟨h1,h2⟩:=h
   obtain ⟨w1,w2,w3,w4⟩:=hw
   have hb:n.begun≠0:=by rw[h1];rcases h2 with h|h|h<;>rw[h]<;>decide
   have:nextW t=none:=by unfold nextW;rw[w1];rfl
   rw[this]
   show (takeN n t).1.begun=0
   unfold takeN
   rw[if_neg hb]
   split<;>rfl
theorem good_all (most:Nat) (ts:List Tok):∀ (n:Nst) (b:Bld) (p q:Option (Int×Nat)),GI most n b→PdOk n p→WfTo ts p q→(∀ t∈ts,TxOk t)→(takeAll n ts).2.2=0→GI most (takeAll n ts).1 (bldA b (takeAll n ts).2.1)∧PdOk (takeAll n ts).1 q:=by
 induction ts with
 | nil=>intro n b p q I hp hw hx hf;cases hw;exact ⟨I,hp⟩
 | cons t ts ih =>
   intro n b p q I hp hw hx hf
   obtain ⟨a1,a2,a3,a4⟩:=takeAll_ok hf
   have g1:=good_tok most n b t I (fun hb ht => ?_) (fun hb => ?_) (hx t List.mem_cons_self) a1
   ·have:=ih _ _ _ _ g1 (pd_tok n t p hp hw.1 a1) hw.2 (fun t h=>hx t (List.mem_cons_of_mem _ h)) a2
    rw[a3,a4,bldA_app]
    exact this
   ·cases p with
    | none =>
      have hw:(if t.begun then 8≤t.kind∧t.kind≤10 else 2≤t.kind∧t.kind≤7):=hw.1
      rw[ht] at hw
      have hw:8≤t.kind∧t.kind≤10:=hw
      omega
    | some x =>
      have:=hw.1.1
      rw[ht] at this
      cases this
   ·cases p with
    | none=>exact absurd hp hb
    | some x =>
      obtain ⟨k,f⟩:=x
      obtain ⟨h1,h2⟩:=hp
      obtain ⟨w1,w2,w3,w4⟩:=hw.1
      exact ⟨w1,w2.trans h1.symm,by rw[w2];exact h2⟩
theorem good_go (most:Nat) (l:List UInt8):∀ (st:LSt) (n:Nst) (k:Nat) (b:Bld),GI most n b→PdOk n (pendL st)→LOk st→Fit st n→(goP st n l k).2.1=1 → ∃ t,(bldA b (goP st n l k).1).root=some t∧GoodT t∧depT t≤most:=by
 induction l with
 | nil =>
   intro st n k b I hp hL hF h1
   have fin:∀ (m:Nst) (b:Bld),GI most m b→closeN m=1 → ∃ t,b.root=some t∧GoodT t∧depT t≤most:=fun m b I h=>by
     obtain ⟨t,ht⟩:=I.noth (close_nothing m h)
     exact ⟨t,ht,I.root t ht⟩
   have h1:(endP st n k).2=1:=h1
   show ∃ t,(bldA b (endP st n k).1).root=some t∧_
   cases st with
   | dead=>exact hF.2.elim
   | out=>exact fin n b I h1
   | word f p=>cases h1
   | str q f acc=>cases h1
   | num a f p =>
     by_cases hw:whI a=true
     ·have e:closeL (.num a f p) k=([⟨9,false,f,k,p⟩],1):=by show (if _ then _ else _)=_;rw[if_pos hw]
      obtain ⟨g1,g2,g3⟩:=takeN_end n ⟨9,false,f,k,p⟩ hF.1 hF.2
      have ea:(takeAll n [⟨9,false,f,k,p⟩]).2.2=0:=by
        show (if _ then _ else _:Nst×List Evt×Int).2.2=0
        rw[if_neg (fun h=>h g1)]
        rfl
      have:=(good_all most [⟨9,false,f,k,p⟩] n b (some (9,f)) none I hp ⟨⟨rfl,rfl,rfl,fun e=>by cases e⟩,rfl⟩ (fun t h=>by rw[List.mem_singleton.1 h];exact num_tx a f k p hL hw) ea).1
      unfold endP at h1 ⊢
      rw[e] at h1 ⊢
      exact fin _ _ this h1
     ·have e:closeL (.num a f p) k=([],10):=by show (if _ then _ else _)=_;rw[if_neg hw]
      unfold endP at h1
      rw[e] at h1
      cases h1
 | cons c t ih =>
   intro st n k b I hp hL hF h1
   obtain ⟨h2,h3⟩:=byteP_fit st n k c hF
   by_cases hf:(byteP st n k c).2.1≠0
   ·have e:goP st n (c :: t) k=((byteP st n k c).1,(byteP st n k c).2.1,k):=by show (if _ then _ else _)=_;rw[if_pos hf]
    rw[e] at h1
    exact absurd h1 (h2 hf).2.1
   ·have hf0:(byteP st n k c).2.1=0:=Decidable.not_not.1 hf
    have e:goP st n (c :: t) k=((byteP st n k c).1++(goP (byteP st n k c).2.2.1 (byteP st n k c).2.2.2 t (k+1)).1,(goP (byteP st n k c).2.2.1 (byteP st n k c).2.2.2 t (k+1)).2):=by show (if _ then _ else _)=_;rw[if_neg hf]
    rw[e] at h1 ⊢
    obtain ⟨b1,b2⟩:=byte_ok st n k c hf0
    have hd:st≠.dead:=fun h=>by rw[h] at hF;exact hF.2.elim
    obtain ⟨q,w1,w2⟩:=stepL_wf st k c hd
    have w2:=w2 b2
    subst w2
    obtain ⟨x1,x2⟩:=lex_tx st k c hL b2
    obtain ⟨g1,g2⟩:=good_all most _ n b _ _ I hp w1 x2 b1
    have:=ih _ _ (k+1) _ g1 g2 x1 (h3 hf0) h1
    rw[bldA_app]
    exact this
theorem tree_good (l:List UInt8) (d:Int) (h:(parseP l d).2.1=1):GoodT (treeP l d)∧depT (treeP l d)≤(newN d).most:=by
 obtain ⟨t,ht,hg⟩:=good_go (newN d).most l .out (newN d) 0 ⟨[],none⟩ ⟨rfl,(fun t h=>by cases h),Nat.zero_le _,(fun o q h=>by cases h),fun h=>absurd rfl h,fun h=>absurd rfl h,opOk_mk (fun h=>h.1 rfl) rfl,(fun h=>by cases h)⟩ rfl trivial (fit_start d) h
 have e:treeP l d=t:=by
   unfold treeP treeE
   have ht:(bldA ⟨[],none⟩ (parseP l d).1).root=some t:=ht
   rw[ht]
   rfl
 rw[e]
 exact hg
end
section
theorem same_empty {r s:List Tree} (h:sameL r s=true):r.isEmpty=s.isEmpty:=by
 cases r<;>cases s<;>first|rfl|(unfold sameL at h;cases h)
mutual
theorem line_same:∀ (t u:Tree) (d:Nat),sameT t u=true→lineT d t=lineT d u
 | .mk k1 f1 o1 t1 i1 n1,.mk k2 f2 o2 t2 i2 n2,d,h=>by
   have hs:=show_same _ _ h
   unfold sameT at h
   simp only [Bool.and_eq_true,decide_eq_true_eq] at h
   obtain ⟨⟨⟨rfl,rfl⟩,rfl⟩,h⟩:=h
   unfold lineT
   rw[lineA_same i1 i2 d h,lineO_same i1 i2 n1 d h,same_empty h,hs]
theorem lineA_same:∀ (r s:List Tree) (d:Nat),sameL r s=true→lineA d r=lineA d s
 | [],[],_,_=>rfl
 | [],_ :: _,_,h=>by unfold sameL at h;cases h
 | _ :: _,[],_,h=>by unfold sameL at h;cases h
 | t :: r,u :: s,d,h=>by
   unfold sameL at h
   simp only [Bool.and_eq_true] at h
   unfold lineA
   rw[line_same t u (d+1) h.1,lineA_same r s d h.2,same_empty h.2]
theorem lineO_same:∀ (r s:List Tree) (names:List (List UInt8)) (d:Nat),sameL r s=true→lineO d r names=lineO d s names
 | [],[],_,_,_=>by unfold lineO;rfl
 | [],_ :: _,_,_,h=>by unfold sameL at h;cases h
 | _ :: _,[],_,_,h=>by unfold sameL at h;cases h
 | t :: r,u :: s,names,d,h=>by
   unfold sameL at h
   simp only [Bool.and_eq_true] at h
   unfold lineO
   rw[line_same t u (d+1) h.1,lineO_same r s names.tail d h.2,same_empty h.2]
end
theorem text_twice (l:List UInt8) (d:Int) (h:(parseP l d).2.1=1) :
   (parseP (showT (treeP l d)) d).2.1=1∧sameT (treeP l d) (treeP (showT (treeP l d)) d)=true∧(parseP (lineT 0 (treeP l d)) d).2.1=1∧sameT (treeP l d) (treeP (lineT 0 (treeP l d)) d)=true ∧
   showT (treeP (showT (treeP l d)) d)=showT (treeP l d)∧showT (treeP (lineT 0 (treeP l d)) d)=showT (treeP l d)∧lineT 0 (treeP (showT (treeP l d)) d)=lineT 0 (treeP l d):=by
 obtain ⟨g1,g2⟩:=tree_good l d h
 obtain ⟨a1,a2⟩:=show_back _ g1 d g2
 obtain ⟨b1,b2⟩:=line_back _ g1 d g2
 exact ⟨a1,a2,b1,b2,(show_same _ _ a2).symm,(show_same _ _ b2).symm,(line_same _ _ 0 a2).symm⟩
end
section
mutual
def SmT (L:Nat):Tree→Prop
 | .mk _ _ _ tx items names=>tx.length≤L∧(∀ s∈names,s.length≤L)∧SmL L items
def SmL (L:Nat):List Tree→Prop
 | []=>True
 | t :: ts=>SmT L t∧SmL L ts
end
theorem smL_app (L:Nat):∀ (ts:List Tree) (u:Tree),SmL L ts→SmT L u→SmL L (ts++[u])
 | [],u,_,g=>by rw[List.nil_append];unfold SmL;exact ⟨g,by unfold SmL;trivial⟩
 | t :: ts,u,h,g=>by
   rw[List.cons_append]
   unfold SmL at h ⊢
   exact ⟨h.1,smL_app L ts u h.2 g⟩
def qW:QSt→Nat
 | .plain=>0
 | .sign _ _ p=>p.length
 | .esc=>1
 | .hex k _=>2+k
 | .half _=>6
 | .hesc _=>7
 | .hhex _ k _=>8+k
 | .done=>0
theorem stepQ_sm (st st':QSt) (c:UInt8) (e:List UInt8) (h:stepQ st c=some (st',e)):e.length+qW st'≤qW st+1:=by
 cases st with
 | done=>cases h
 | plain =>
   rw[step_plain] at h
   (repeat' split at h)<;>cases h<;>simp[qW]
 | sign sg lf p =>
   rw[step_sign] at h
   (repeat' split at h)<;>cases h<;>simp[qW]
 | esc =>
   have h:(if c=117 then some (QSt.hex 0 0,[]) else if letB c=0 then none else some (QSt.plain,[letB c]))=some (st',e):=h
   (repeat' split at h)<;>cases h<;>simp[qW]
 | hex k v =>
   cases hd:hexB c with
   | none=>rw[step_hex_none _ _ _ hd] at h;cases h
   | some d =>
     rw[step_hex _ _ _ _ hd] at h
     have:=ofB_len (v*16+d)
     (repeat' split at h)<;>cases h<;>simp[qW]<;>omega
 | half g =>
   have h:(if c=92 then some (QSt.hesc g,[]) else none)=some (st',e):=h
   (repeat' split at h)<;>cases h<;>simp[qW]
 | hesc g =>
   have h:(if c=117 then some (QSt.hhex g 0 0,[]) else none)=some (st',e):=h
   (repeat' split at h)<;>cases h<;>simp[qW]
 | hhex g k v =>
   cases hd:hexB c with
   | none=>rw[step_hhex_none _ _ _ _ hd] at h;cases h
   | some d =>
     rw[step_hhex _ _ _ _ _ hd] at h
     have:=ofB_len (65536+(g-55296)*1024+(v*16+d-56320))
     (repeat' split at h)<;>cases h<;>simp[qW]<;>omega
def LSm (k:Nat):LSt→Prop
 | .num _ _ p=>p.length≤k
 | .word _ p=>p.length≤k
 | .str q _ acc=>acc.length+qW q≤k
 | _=>True
theorem out_sm (k:Nat) (c:UInt8):LSm (k+1) (outL k c).2.2 ∧ ∀ t∈(outL k c).1,t.text.length≤k+1:=by
 unfold outL
 (repeat' split)<;>refine ⟨by simp[LSm,qW],fun t ht => ?_⟩<;>simp at ht<;>first
   | exact ht.elim
   | (subst ht;simp)
theorem lex_sm (st:LSt) (k:Nat) (c:UInt8) (h:LSm k st):LSm (k+1) (stepL st k c).2.2 ∧ ∀ t∈(stepL st k c).1,t.text.length≤k+1:=by
 cases st with
 | out=>exact out_sm k c
 | dead=>exact ⟨trivial,fun t ht=>by cases ht⟩
 | num a f p =>
   have h:p.length≤k:=h
   obtain ⟨o1,o2⟩:=out_sm k c
   have e:stepL (.num a f p) k c=if nxI a c.toNat≠0 then ([],0,.num (nxI a c.toNat) f (p++[c])) else if whI a && !stickI c.toNat then (⟨9,false,f,k,p⟩ :: (outL k c).1,(outL k c).2.1,(outL k c).2.2) else ([],5,.dead):=rfl
   rw[e]
   split
   ·exact ⟨by show (p++[c]).length≤k+1;simp;omega,fun t ht=>by cases ht⟩
   ·split
    ·refine ⟨o1,fun t ht => ?_⟩
     rcases List.mem_cons.1 ht with rfl|ht
     ·show p.length≤k+1;omega
     ·exact o2 t ht
    ·exact ⟨trivial,fun t ht=>by cases ht⟩
 | word f p =>
   have h:p.length≤k:=h
   have e:stepL (.word f p) k c=if refL (p++[c])=2 then ([],6,.dead) else if refL (p++[c])=1 then ([⟨10,false,f,k+1,p++[c]⟩],0,.out) else ([],0,.word f (p++[c])):=rfl
   rw[e]
   split
   ·exact ⟨trivial,fun t ht=>by cases ht⟩
   ·split
    ·refine ⟨trivial,fun t ht => ?_⟩
     rw[List.mem_singleton.1 ht]
     show (p++[c]).length≤k+1
     simp;omega
    ·exact ⟨by show (p++[c]).length≤k+1;simp;omega,fun t ht=>by cases ht⟩
 | str q f acc =>
   have h:acc.length+qW q≤k:=h
   show LSm (k+1) (strL q f acc k c (stepQ q c)).2.2 ∧ ∀ t∈(strL q f acc k c (stepQ q c)).1,t.text.length≤k+1
   cases hs:stepQ q c with
   | none=>exact ⟨trivial,fun t ht=>by cases ht⟩
   | some x =>
     obtain ⟨q',e⟩:=x
     have hl:=stepQ_sm q q' c e hs
     by_cases hd:q'=.done
     ·subst hd
      refine ⟨trivial,fun t ht => ?_⟩
      rw[List.mem_singleton.1 ht]
      show (acc++e).length≤k+1
      have:qW .done=0:=rfl
      simp;omega
     ·have e1:strL q f acc k c (some (q',e))=([],0,.str q' f (acc++e)):=by cases q'<;>first|rfl|exact absurd rfl hd
      rw[e1]
      exact ⟨by show (acc++e).length+qW q'≤k+1;simp;omega,fun t ht=>by cases ht⟩
theorem close_sm (st:LSt) (k:Nat) (h:LSm k st):∀ t∈(closeL st k).1,t.text.length≤k:=by
 cases st with
 | num a f p =>
   have h:p.length≤k:=h
   have e:closeL (.num a f p) k=if whI a then ([⟨9,false,f,k,p⟩],1) else ([],10):=rfl
   rw[e]
   split
   ·intro t ht
    rw[List.mem_singleton.1 ht]
    exact h
   ·intro t ht;cases ht
 | _=>intro t ht;cases ht
def NSm (L:Nat)(n:Nst):Prop:=∀ o∈n.op,o.name.length≤L∧o.step.name.length≤L
def ESm (L:Nat)(e:Evt):Prop:=e.text.length≤L∧e.step.name.length≤L
theorem stepO_sm {L:Nat} {op:List Opn} (h:∀ o∈op,o.name.length≤L∧o.step.name.length≤L):(stepO op).name.length≤L:=by
 cases op with
 | nil=>exact Nat.zero_le _
 | cons o r =>
   show (if o.obj then (⟨true,o.name,0⟩:Stp) else ⟨false,[],o.many⟩).name.length≤L
   split
   ·exact (h o List.mem_cons_self).1
   ·exact Nat.zero_le _
theorem more_sm {L:Nat} {op:List Opn} (h:∀ o∈op,o.name.length≤L∧o.step.name.length≤L):∀ o∈moreO op,o.name.length≤L∧o.step.name.length≤L:=by
 cases op with
 | nil=>exact h
 | cons o r =>
   intro p hp
   rcases List.mem_cons.1 hp with rfl|hp
   ·exact h o List.mem_cons_self
   ·exact h p (List.mem_cons_of_mem _ hp)
theorem name_sm {L:Nat} {s:List UInt8} {op:List Opn} (hs:s.length≤L) (h:∀ o∈op,o.name.length≤L∧o.step.name.length≤L):∀ o∈nameO s op,o.name.length≤L∧o.step.name.length≤L:=by
 cases op with
 | nil=>exact h
 | cons o r =>
   intro p hp
   rcases List.mem_cons.1 hp with rfl|hp
   ·exact ⟨hs,(h o List.mem_cons_self).2⟩
   ·exact h p (List.mem_cons_of_mem _ hp)
theorem one_sm {L:Nat}{e:Evt}(h:ESm L e):∀ x∈[e],ESm L x:=fun x hx=>by rw[List.mem_singleton.1 hx];exact h
theorem takeO_sm (L:Nat) (n:Nst) (t:Tok) (h:NSm L n):NSm L (takeO n t).1 ∧ ∀ e∈(takeO n t).2.1,ESm L e:=by
 obtain ⟨most,op,may,begun,came⟩:=n
 have h:∀ o∈op,o.name.length≤L∧o.step.name.length≤L:=h
 have hst:=stepO_sm h
 have nil:∀ e∈([]:List Evt),ESm L e:=fun e he=>by cases he
 have tl:∀ o r,op=o :: r→(∀ p∈moreO r,p.name.length≤L∧p.step.name.length≤L)∧o.step.name.length≤L:=fun o r e=>⟨more_sm fun p hp=>h p (by rw[e];exact List.mem_cons_of_mem _ hp),(h o (by rw[e];exact List.mem_cons_self)).2⟩
 have opn:∀ (o:Opn),o.name.length≤L∧o.step.name.length≤L → ∀ p∈o :: op,p.name.length≤L∧p.step.name.length≤L:=fun o ho p hp=>by
   rcases List.mem_cons.1 hp with rfl|hp
   ·exact ho
   ·exact h p hp
 cases may<;>unfold takeO<;>simp only []<;>(repeat' split)<;>first
   | exact ⟨h,nil⟩
   | exact ⟨h,one_sm ⟨Nat.zero_le _,hst⟩⟩
   | exact ⟨opn _ ⟨Nat.zero_le _,hst⟩,one_sm ⟨Nat.zero_le _,hst⟩⟩
   | exact ⟨(tl _ _ rfl).1,one_sm ⟨Nat.zero_le _,(tl _ _ rfl).2⟩⟩
theorem takeN_sm (L:Nat) (n:Nst) (t:Tok) (h:NSm L n) (ht:t.text.length≤L):NSm L (takeN n t).1 ∧ ∀ e∈(takeN n t).2.1,ESm L e:=by
 unfold takeN
 split
 ·exact takeO_sm L n t h
 ·split
  ·exact ⟨name_sm ht h,fun e he=>by cases he⟩
  ·exact ⟨more_sm h,one_sm ⟨ht,stepO_sm h⟩⟩
theorem takeAll_sm (L:Nat):∀ (ts:List Tok) (n:Nst),NSm L n→(∀ t∈ts,t.text.length≤L)→NSm L (takeAll n ts).1 ∧ ∀ e∈(takeAll n ts).2.1,ESm L e
 | [],n,h,_=>⟨h,fun e he=>by cases he⟩
 | t :: ts,n,h,ht=>by
   obtain ⟨g1,g2⟩:=takeN_sm L n t h (ht t List.mem_cons_self)
   obtain ⟨k1,k2⟩:=takeAll_sm L ts (takeN n t).1 g1 (fun u hu=>ht u (List.mem_cons_of_mem _ hu))
   have e:takeAll n (t :: ts)=if (takeN n t).2.2≠0 then takeN n t else ((takeAll (takeN n t).1 ts).1,(takeN n t).2.1++(takeAll (takeN n t).1 ts).2.1,(takeAll (takeN n t).1 ts).2.2):=rfl
   rw[e]
   split
   ·exact ⟨g1,g2⟩
   ·refine ⟨k1,fun e he => ?_⟩
    rcases List.mem_append.1 he with he|he
    ·exact g2 e he
    ·exact k2 e he
def BSm (L:Nat)(b:Bld):Prop:=(∀ p∈b.op,SmT L p.1∧p.2.name.length≤L) ∧ ∀ t,b.root=some t→SmT L t
theorem bldE_sm (L:Nat) (b:Bld) (e:Evt) (h:BSm L b) (he:ESm L e):BSm L (bldE b e):=by
 obtain ⟨op,rt⟩:=b
 obtain ⟨h1,h2⟩:=h
 have h1:∀ p∈op,SmT L p.1∧p.2.name.length≤L:=h1
 unfold bldE
 split
 ·refine ⟨fun p hp => ?_,h2⟩
  rcases List.mem_cons.1 hp with rfl|hp
  ·refine ⟨?_,he.2⟩
   show SmT L (.mk e.value e.fr 0 [] [] [])
   unfold SmT
   exact ⟨Nat.zero_le _,(fun s hs=>by cases hs),by unfold SmL;trivial⟩
  ·exact h1 p hp
 ·match op,h1 with
  | [],h1=>exact ⟨h1,h2⟩
  | [(.mk kd fr to tx items names,s)],h1 =>
    have a:=(h1 _ List.mem_cons_self).1
    unfold SmT at a
    refine ⟨(fun p hp=>by cases hp),fun t ht => ?_⟩
    injection ht with ht
    rw[← ht]
    unfold SmT
    exact ⟨he.1,a.2⟩
  | (.mk kd fr to tx items names,s) :: (p,ps) :: r,h1 =>
    have a:=(h1 _ List.mem_cons_self)
    have b:=(h1 _ (List.mem_cons_of_mem _ List.mem_cons_self))
    refine ⟨fun q hq => ?_,h2⟩
    rcases List.mem_cons.1 hq with rfl|hq
    ·refine ⟨?_,b.2⟩
     obtain ⟨a1,a2⟩:=a
     unfold SmT at a1
     obtain ⟨pk,pf,pt,px,pi,pn⟩:=p
     obtain ⟨b1,_⟩:=b
     unfold SmT at b1
     show SmT L (.mk pk pf pt px (pi++[.mk e.value fr e.to e.text items names]) (if s.named then pn++[s.name] else pn))
     unfold SmT
     refine ⟨b1.1,?_,smL_app L pi _ b1.2.2 (by unfold SmT;exact ⟨he.1,a1.2⟩)⟩
     split
     ·intro z hz
      rcases List.mem_append.1 hz with hz|hz
      ·exact b1.2.1 z hz
      ·rw[List.mem_singleton.1 hz];exact a2
     ·exact b1.2.1
    ·exact h1 q (List.mem_cons_of_mem _ (List.mem_cons_of_mem _ hq))
theorem bldA_sm (L:Nat):∀ (es:List Evt) (b:Bld),BSm L b→(∀ e∈es,ESm L e)→BSm L (bldA b es)
 | [],b,h,_=>h
 | e :: es,b,h,he=>bldA_sm L es (bldE b e) (bldE_sm L b e h (he e List.mem_cons_self)) (fun x hx=>he x (List.mem_cons_of_mem _ hx))
theorem goP_sm (L:Nat):∀ (l:List UInt8) (st:LSt) (n:Nst) (k:Nat),LSm k st→NSm L n→k+l.length≤L → ∀ e∈(goP st n l k).1,ESm L e
 | [],st,n,k,h,hn,hl=>by
   have hl:k+0≤L:=hl
   exact (takeAll_sm L (closeL st k).1 n hn (fun t ht=>by have:=close_sm st k h t ht;omega)).2
 | c :: l,st,n,k,h,hn,hl=>by
   have hl:k+(l.length+1)≤L:=hl
   obtain ⟨a1,a2⟩:=lex_sm st k c h
   obtain ⟨b1,b2⟩:=takeAll_sm L (stepL st k c).1 n hn (fun t ht=>by have:=a2 t ht;omega)
   have ih:=goP_sm L l (byteP st n k c).2.2.1 (byteP st n k c).2.2.2 (k+1) a1 b1 (by omega)
   have e:goP st n (c :: l) k=if (byteP st n k c).2.1≠0 then ((byteP st n k c).1,(byteP st n k c).2.1,k) else ((byteP st n k c).1++(goP (byteP st n k c).2.2.1 (byteP st n k c).2.2.2 l (k+1)).1,(goP (byteP st n k c).2.2.1 (byteP st n k c).2.2.2 l (k+1)).2):=rfl
   rw[e]
   split
   ·exact b2
   ·intro e he
    rcases List.mem_append.1 he with he|he
    ·exact b2 e he
    ·exact ih e he
theorem tree_sm (l:List UInt8) (d:Int):SmT l.length (treeP l d):=by
 have h1:=goP_sm l.length l .out (newN d) 0 trivial (fun o ho=>by cases ho) (by omega)
 have h2:=(bldA_sm l.length _ ⟨[],none⟩ ⟨(fun p hp=>by cases hp),fun t ht=>by cases ht⟩ h1).2
 show SmT l.length ((bldA ⟨[],none⟩ (goP .out (newN d) l 0).1).root.getD (.mk 0 0 0 [] [] []))
 cases hr:(bldA ⟨[],none⟩ (goP .out (newN d) l 0).1).root with
 | some t=>exact h2 t hr
 | none =>
   show SmT l.length (.mk 0 0 0 [] [] [])
   unfold SmT
   exact ⟨Nat.zero_le _,(fun s hs=>by cases hs),by unfold SmL;trivial⟩
end
section
open Go.RowKit
def sevenI (j:Nat):Int:=[91,93,123,125,44,58,34].getD j 0
def NoSeven (c:Int)(k:Nat):Prop:=∀ j:Nat,j<k→c≠sevenI j
theorem noSeven_zero (c:Int):NoSeven c 0:=fun _ h=>absurd h (by omega)
theorem noSeven_succ {c:Int} {k:Nat} (h:NoSeven c k) (e:c≠sevenI k):NoSeven c (k+1):=by
 intro j hj
 by_cases hjk:j=k
 ·subst hjk;exact e
 ·exact h j (by omega)
theorem seven_hit {c:Int} {k:Nat} (_:NoSeven c k) (hk:k<7) (h:c=sevenI k):(k:Int)+2=kindI c:=by
 have hk:k=0∨k=1∨k=2∨k=3∨k=4∨k=5∨k=6:=by omega
 rcases hk with rfl|rfl|rfl|rfl|rfl|rfl|rfl<;>subst h<;>rfl
theorem seven_miss {c:Int} (h:NoSeven c 7) (hb:isBlankI c=false) :
   kindI c=if c=45∨isDigitI c=true then 9 else if c=116∨c=102∨c=110 then 10 else 0:=by
 have g0:c≠91:=h 0 (by omega)
 have g1:c≠93:=h 1 (by omega)
 have g2:c≠123:=h 2 (by omega)
 have g3:c≠125:=h 3 (by omega)
 have g4:c≠44:=h 4 (by omega)
 have g5:c≠58:=h 5 (by omega)
 have g6:c≠34:=h 6 (by omega)
 have g7:c≠32∧c≠9∧c≠10∧c≠13:=by
   simp[isBlankI] at hb;omega
 unfold kindI
 rw[if_neg g7.1,if_neg g7.2.1,if_neg g7.2.2.1,if_neg g7.2.2.2,if_neg g0,if_neg g1,if_neg g2,if_neg g3,if_neg g4,if_neg g5,if_neg g6]
 by_cases e:c=45
 ·simp[e]
 by_cases d:isDigitI c=true
 ·have:c≠116∧c≠102∧c≠110:=by simp[isDigitI] at d;omega
  rw[if_neg e,if_neg this.1,if_neg this.2.1,if_neg this.2.2,if_pos d,if_pos (.inr d)]
 ·rw[if_neg e,if_neg (show ¬ (c=45∨isDigitI c=true) from fun h=>h.elim e d)]
  by_cases e1:c=116
  ·simp[e1]
  by_cases e2:c=102
  ·simp[e2]
  by_cases e3:c=110
  ·simp[e3]
  simp[e1,e2,e3,d]
theorem rkind_blank (c:Int) (w:World) (hb:isBlankI c=true) :
   Calls Tryz.prog 46 #[.int .u8 c] w fun e w'=>e=.returned (.int .i64 (kindI c))∧Below w.heap.size w w':=by
 have hk:kindI c=1:=by
   have:c=32∨c=9∨c=10∨c=13:=by simpa [isBlankI,or_assoc] using hb
   rcases this with rfl|rfl|rfl|rfl<;>rfl
 have HK:=hid hk
 clear hk
 go_enter Tryz.func46,Tryz.ntmps46
 go_wp2_with (go_at_call 45;refine (rblank_any _ _).mono ?_;rintro e w' ⟨rfl,rfl⟩)
 go_ret
 exact ⟨ret_int HK.out.symm,Below.refl _ _⟩
theorem rkind_any (c:Int) (w:World) :
   Calls Tryz.prog 46 #[.int .u8 c] w fun e w'=>e=.returned (.int .i64 (kindI c))∧Below w.heap.size w w':=by
 by_cases hb:isBlankI c=true
 ·exact rkind_blank c w hb
 replace hb:isBlankI c=false:=by simpa using hb
 have hm:NoSeven c 7→kindI c=if c=45∨isDigitI c=true then 9 else if c=116∨c=102∨c=110 then 10 else 0:=fun h=>seven_miss h hb
 have HM:=hid hm
 clear hm
 go_enter Tryz.func46,Tryz.ntmps46
 go_wp2_with (go_at_call 45;refine (rblank_any _ _).mono ?_;rintro e w' ⟨rfl,rfl⟩)
 go_loop [9] (fun i => ∃ k:Nat,k≤7∧i=.int .i64 k∧NoSeven c k) (fun i=>7-(intOf i).toNat)
 case atStart=>exact ⟨0,by omega,rfl,noSeven_zero c⟩
 case round =>
   obtain ⟨k,hk,rfl,hno⟩:=hrel
   by_cases hlt:k<7
   ·have hk:k=0∨k=1∨k=2∨k=3∨k=4∨k=5∨k=6:=by omega
    rcases hk with rfl|rfl|rfl|rfl|rfl|rfl|rfl
    all_goals
      go_wp2
      ·rename_i h _
       have g:=seven_hit hno (by omega) (beq_iff_eq.1 h)
       go_ret
       exact ⟨ret_int g,(Below.refl _ _).alloc (Nat.le_refl _) _⟩
      ·rename_i h
       have g:=noSeven_succ hno (beq_eq_false_iff_ne.1 h)
       go_round
       case rel=>exact ⟨_,Nat.succ_le_of_lt hlt,rfl,g⟩
       case measure=>simp[intOf]
   ·obtain rfl:k=7:=by omega
    have hf:=HM.out hno
    have hs:(c==45)=true∧kindI c=9∨(c==45)=false∧isDigitI c=true∧kindI c=9 ∨
        (c==45)=false∧isDigitI c=false∧((c==116)=true∧kindI c=10∨(c==116)=false∧((c==102)=true∧kindI c=10∨(c==102)=false∧((c==110)=true∧kindI c=10∨(c==110)=false∧kindI c=0))):=by
      rw[hf]
      by_cases e:c=45
      ·simp[e]
      by_cases d:isDigitI c=true
      ·simp[e,d]
      by_cases e1:c=116
      ·simp[e1]
      by_cases e2:c=102
      ·simp[e2]
      by_cases e3:c=110
      ·simp[e3]
      simp[e,d,e1,e2,e3]
    clear hf HM
    rcases hs with ⟨e,g⟩|⟨e,d,g⟩|⟨e,d,⟨f,g⟩|⟨f,⟨f2,g⟩|⟨f2,⟨f3,g⟩|⟨f3,g⟩⟩⟩⟩
    all_goals
      have HG:=hid g
      clear g
      go_wp2_with (go_at_call 67;refine (rdigit_any _ _).mono ?_;rintro e w' ⟨rfl,rfl⟩)
      go_ret
      exact ⟨ret_int HG.out.symm,(Below.refl _ _).alloc (Nat.le_refl _) _⟩
end
section
open Go.RowKit
theorem rlet_34 (W:World):Calls Tryz.prog 123 #[.int .u8 34] W fun e w'=>e=.returned (.int .u8 34)∧Below W.heap.size W w':=by
 go_enter Tryz.func123,Tryz.ntmps123
 go_wp2
 refine wp_loop_rounds 9 ?_
 rw[rounds_succ]
 go_wp2
 go_ret
 exact ⟨rfl,below2 _ _ _⟩
theorem rlet_92 (W:World):Calls Tryz.prog 123 #[.int .u8 92] W fun e w'=>e=.returned (.int .u8 92)∧Below W.heap.size W w':=by
 go_enter Tryz.func123,Tryz.ntmps123
 go_wp2
 refine wp_loop_rounds 9 ?_
 rw[rounds_succ]
 go_wp2
 rw[rounds_succ]
 go_wp2
 go_ret
 exact ⟨rfl,below2 _ _ _⟩
theorem rlet_98 (W:World):Calls Tryz.prog 123 #[.int .u8 98] W fun e w'=>e=.returned (.int .u8 8)∧Below W.heap.size W w':=by
 go_enter Tryz.func123,Tryz.ntmps123
 go_wp2
 refine wp_loop_rounds 9 ?_
 rw[rounds_succ]
 go_wp2
 rw[rounds_succ]
 go_wp2
 rw[rounds_succ]
 go_wp2
 rw[rounds_succ]
 go_wp2
 go_ret
 exact ⟨rfl,below2 _ _ _⟩
theorem rlet_102 (W:World):Calls Tryz.prog 123 #[.int .u8 102] W fun e w'=>e=.returned (.int .u8 12)∧Below W.heap.size W w':=by
 go_enter Tryz.func123,Tryz.ntmps123
 go_wp2
 refine wp_loop_rounds 9 ?_
 rw[rounds_succ]
 go_wp2
 rw[rounds_succ]
 go_wp2
 rw[rounds_succ]
 go_wp2
 rw[rounds_succ]
 go_wp2
 rw[rounds_succ]
 go_wp2
 go_ret
 exact ⟨rfl,below2 _ _ _⟩
theorem rlet_110 (W:World):Calls Tryz.prog 123 #[.int .u8 110] W fun e w'=>e=.returned (.int .u8 10)∧Below W.heap.size W w':=by
 go_enter Tryz.func123,Tryz.ntmps123
 go_wp2
 refine wp_loop_rounds 9 ?_
 rw[rounds_succ]
 go_wp2
 rw[rounds_succ]
 go_wp2
 rw[rounds_succ]
 go_wp2
 rw[rounds_succ]
 go_wp2
 rw[rounds_succ]
 go_wp2
 rw[rounds_succ]
 go_wp2
 go_ret
 exact ⟨rfl,below2 _ _ _⟩
theorem rlet_114 (W:World):Calls Tryz.prog 123 #[.int .u8 114] W fun e w'=>e=.returned (.int .u8 13)∧Below W.heap.size W w':=by
 go_enter Tryz.func123,Tryz.ntmps123
 go_wp2
 refine wp_loop_rounds 9 ?_
 rw[rounds_succ]
 go_wp2
 rw[rounds_succ]
 go_wp2
 rw[rounds_succ]
 go_wp2
 rw[rounds_succ]
 go_wp2
 rw[rounds_succ]
 go_wp2
 rw[rounds_succ]
 go_wp2
 rw[rounds_succ]
 go_wp2
 go_ret
 exact ⟨rfl,below2 _ _ _⟩
theorem rlet_116 (W:World):Calls Tryz.prog 123 #[.int .u8 116] W fun e w'=>e=.returned (.int .u8 9)∧Below W.heap.size W w':=by
 go_enter Tryz.func123,Tryz.ntmps123
 go_wp2
 refine wp_loop_rounds 9 ?_
 rw[rounds_succ]
 go_wp2
 rw[rounds_succ]
 go_wp2
 rw[rounds_succ]
 go_wp2
 rw[rounds_succ]
 go_wp2
 rw[rounds_succ]
 go_wp2
 rw[rounds_succ]
 go_wp2
 rw[rounds_succ]
 go_wp2
 rw[rounds_succ]
 go_wp2
 go_ret
 exact ⟨rfl,below2 _ _ _⟩
theorem low_toNat (n:Nat) (h:n≤15):((lowB n).toNat:Int)=if n<10 then 48+(n:Int) else 87+n:=by
 unfold lowB
 split
 ·rw[UInt8.toNat_ofNat'];omega
 ·rw[if_pos (by omega),UInt8.toNat_ofNat'];omega
end
section
open Go.RowKit
theorem lit_rd (w:World) (cs:Array Value) (news:List UInt8) (h:cs=(byteCells news).toArray):Rd (w.alloc (.cells cs 5)) (w.heap.size+1) (some ⟨w.heap.size,0,none⟩) news.length (byteCells news):=by
 subst h
 exact Rd.of_list (Own.fresh w 5 _) (byteCells_length news)
theorem part_is (s:ByteArray) (k m:Nat):(s.extract k (k+m)).data.toList=(s.data.toList.drop k).take m:=by
 rw[ByteArray.data_extract,Array.toList_extract,List.extract_eq_take_drop]
 congr 1
 omega
end
section
open Go.RowKit
theorem unit_any (n:Int) (w:World) :
   Calls Tryz.prog 147 #[.int .i64 n] w fun e w'=>e=.returned (.int .i64 (unitI n))∧w=w':=by
 have hh:n<55296∨(55296≤n∧n<56320)∨(56320≤n∧n<57344)∨57344≤n:=by omega
 rcases hh with h|⟨h,h'⟩|⟨h,h'⟩|h
 all_goals
   go_enter Tryz.func147,Tryz.ntmps147
   go_wp2
   go_ret
   exact ⟨ret_i (by unfold unitI;(repeat' split)<;>omega),rfl⟩
theorem has_any (n:Int) (w:World) :
   Calls Tryz.prog 143 #[.int .i64 n] w fun e w'=>e=.returned (.bool (hasI n))∧w=w':=by
 have hh:n<0∨1114111<n∨(0≤n∧n<55296)∨(55296≤n∧n≤57343)∨(57343<n∧n≤1114111):=by omega
 rcases hh with h|h|⟨h,h'⟩|⟨h,h'⟩|⟨h,h'⟩
 all_goals
   go_enter Tryz.func143,Tryz.ntmps143
   go_wp2
   go_ret
   exact ⟨ret_b (by rw[Bool.eq_iff_iff];simp[hasI]<;>omega),rfl⟩
theorem of_core (n m:Int) (w:World) (hm:fixI n=m) :
   Calls Tryz.prog 125 #[.int .i64 n] w fun e w'=>e=.returned (.slice (some ⟨w.heap.size,0,none⟩) (ofI m).length (ofI m).length)∧Own w' w.heap.size 5 ((ofI m).map (Value.int .u8)).toArray∧Below w.heap.size w w':=by
 have hin:=fixI_in n
 rw[hm] at hin
 obtain ⟨g0,g9,_⟩:=hin
 have HH:=hid (has_any n)
 by_cases hb:hasI n=true
 ·obtain rfl:n=m:=by rw[← hm];unfold fixI;rw[if_pos hb]
  rw[hb] at HH
  clear hb hm
  have hh:=@ofI_is n
  rcases hh with ⟨h,e⟩|⟨h,h',e⟩|⟨h,h',e⟩|⟨h,e⟩
  all_goals
    rw[e]
    clear e
    go_enter Tryz.func125,Tryz.ntmps125
    go_wp2_with (go_at_call 143;refine (HH.out _).mono ?_;rintro e w' ⟨rfl,rfl⟩)
    go_ret
    exact ⟨rfl,Own.fresh _ _ _,(Below.refl _ _).alloc (Nat.le_refl _) _⟩
 ·obtain rfl:m=65533:=by rw[← hm];unfold fixI;rw[if_neg hb]
  rw[(by simpa using hb:hasI n=false)] at HH
  clear hb hm
  go_enter Tryz.func125,Tryz.ntmps125
  go_wp2_with (go_at_call 143;refine (HH.out _).mono ?_;rintro e w' ⟨rfl,rfl⟩)
  go_ret
  exact ⟨rfl,Own.fresh _ _ _,(Below.refl _ _).alloc (Nat.le_refl _) _⟩
end
section
def letR (c:UInt8):UInt8:=if c=34 then 34 else if c=92 then 92 else if c=47 then 47 else if c=98 then 8 else if c=102 then 12 else if c=110 then 10 else if c=114 then 13 else if c=116 then 9 else 0
def hexGo:Nat→List UInt8→Int→Nat×Int
 | 0,_,v=>(0,v)
 | _+1,[],v=>(0,v)
 | f+1,c :: t,v=>if isHexI c.toNat then ((hexGo f t (v*16+hexI c.toNat)).1+1,(hexGo f t (v*16+hexI c.toNat)).2) else (0,v)
def hexR (l:List UInt8):Nat×Int:=hexGo 4 l 0
def unitD (sec:Bool) (n:Nat) (v d1 d2:Int) (len:Nat):Nat×Int×Int:=match sec with
 | true=>if 1≤n∧d1≠13 then (2,0,4) else if 2≤n∧d2<12 then (3,0,4) else if n<4∧n<len∧n<2 then (2+n,0,4) else if n<4∧n<len then (2+n,0,3) else (2+n,v,0)
 | false=>if 2≤n∧d1=13∧12≤d2 then (3,0,4) else if n<4∧n<len then (2+n,0,3) else (2+n,v,0)
def unitR (l:List UInt8) (sec:Bool):Nat×Int×Int:=match l with
 | []=>(0,0,0)
 | c0 :: l1=>if c0≠92 then (0,0,if sec then 4 else 3) else match l1 with
   | []=>(1,0,0)
   | c1 :: r=>if c1≠117 then (1,0,if sec then 4 else 3) else
     unitD sec (hexR r).1 (hexR r).2 (if 1≤(hexR r).1 then hexI (r.getD 0 0).toNat else -1) (if 2≤(hexR r).1 then hexI (r.getD 1 0).toNat else -1) r.length
def sigR:Int→Int→List UInt8→Nat→Nat×Int×Bool
 | _,_,[],k=>(k,0,false)
 | sg,lf,c :: t,k=>if okU sg lf c.toNat then (if lfU lf c.toNat=0 then (k+1,0,true) else sigR (sgU sg lf c.toNat) (lfU lf c.toNat) t (k+1)) else (k,2,false)
def pieceX (l:List UInt8):List UInt8×Nat×Int×Bool :=
 if (l.getD 0 0).toNat<32 then ([],0,7,false)
 else if l.getD 0 0≠92 then ((if (sigR 0 0 l 0).2.2 then l.take (sigR 0 0 l 0).1 else []),sigR 0 0 l 0)
 else if l.length=1 then ([],1,0,false)
 else if l.getD 1 0≠117 then (if letR (l.getD 1 0)=0 then ([],1,3,false) else ([letR (l.getD 1 0)],2,0,true))
 else if (unitR l false).2.2≠0∨(unitR l false).1<6 then ([],(unitR l false).1,(unitR l false).2.2,false)
 else if (unitR l false).2.1<55296∨56319<(unitR l false).2.1 then (ofB (fixI (unitR l false).2.1),6,0,true)
 else if (unitR (l.drop 6) true).2.2≠0∨(unitR (l.drop 6) true).1<6 then ([],6+(unitR (l.drop 6) true).1,(unitR (l.drop 6) true).2.2,false)
 else (ofB (fixI (65536+((unitR l false).2.1-55296)*1024+(unitR (l.drop 6) true).2.1-56320)),12,0,true)
def scanR:Nat→List UInt8→List UInt8×Nat×Int
 | 0,_=>([],0,0)
 | f+1,l=>if l=[] then ([],0,0) else if l.getD 0 0=34 then ([],1,1)
   else if (pieceX l).2.2.1≠0∨(pieceX l).2.2.2=false then ([],(pieceX l).2.1,(pieceX l).2.2.1)
   else ((pieceX l).1++(scanR f (l.drop (pieceX l).2.1)).1,(pieceX l).2.1+(scanR f (l.drop (pieceX l).2.1)).2.1,(scanR f (l.drop (pieceX l).2.1)).2.2)
def scanL (l:List UInt8):List UInt8×Nat×Int:=scanR l.length l
def blankN:List UInt8→Nat
 | []=>0
 | c :: t=>if isBlankI c.toNat then blankN t+1 else 0
def blankR (l:List UInt8)(at':Nat):Nat:=at'+blankN (l.drop at')
structure PartR where
 val:Tree
 beg:Bool
 pt:Nat
 fault:Int
def zeroT:Tree:=.mk 0 0 0 [] [] []
def brkR (kd:Int)(fr:Nat)(items:List Tree)(names:List (List UInt8))(kind:Int)(pt:Nat):PartR:=⟨.mk kd fr 0 [] items names,true,pt,kind⟩
def quotedR (l:List UInt8) (k:Nat):PartR :=
 if (scanL (l.drop (k+1))).2.2=0 then brkR 3 k [] [] 10 l.length
 else if (scanL (l.drop (k+1))).2.2≠1 then brkR 3 k [] [] (scanL (l.drop (k+1))).2.2 (k+1+(scanL (l.drop (k+1))).2.1)
 else ⟨.mk 3 k (k+1+(scanL (l.drop (k+1))).2.1) (scanL (l.drop (k+1))).1 [] [],true,k+1+(scanL (l.drop (k+1))).2.1,0⟩
def numW:Int→List UInt8→Nat→Nat×Int×Int
 | a,[],k=>(k,0,a)
 | a,c :: t,k=>if nxI a c.toNat≠0 then numW (nxI a c.toNat) t (k+1) else (k,anI a c.toNat,a)
def numberR (l:List UInt8) (cl:Bool) (k:Nat):PartR :=
 if (numW 0 (l.drop k) 0).2.1=2 then brkR 2 k [] [] 5 (k+(numW 0 (l.drop k) 0).1)
 else if (cl=false∧(numW 0 (l.drop k) 0).2.1=0)∨whI (numW 0 (l.drop k) 0).2.2=false then brkR 2 k [] [] 10 l.length
 else ⟨.mk 2 k (k+(numW 0 (l.drop k) 0).1) ((l.drop k).take (numW 0 (l.drop k) 0).1) [] [],true,k+(numW 0 (l.drop k) 0).1,0⟩
def wordW:List UInt8→List UInt8→Nat×Int
 | p,[]=>(p.length,0)
 | p,c :: t=>if refL (p++[c])=0 then wordW (p++[c]) t else (p.length,refL (p++[c]))
def wordR (l:List UInt8) (k:Nat):PartR :=
 if (wordW [] (l.drop k)).2=2 then brkR 0 k [] [] 6 (k+(wordW [] (l.drop k)).1)
 else if (wordW [] (l.drop k)).2=0 then brkR 0 k [] [] 10 l.length
 else ⟨.mk (if (l.drop k).take ((wordW [] (l.drop k)).1+1)=lN then 0 else 1) k (k+(wordW [] (l.drop k)).1+1) ((l.drop k).take ((wordW [] (l.drop k)).1+1)) [] [],true,k+(wordW [] (l.drop k)).1+1,0⟩
def arrGo (l:List UInt8) (sm:Nat→PartR) (fr:Nat):Nat→Nat→List Tree→PartR
 | 0,_,items=>brkR 4 fr items [] 10 l.length
 | f+1,k,items =>
   if l.length≤k then brkR 4 fr items [] 10 l.length
   else if (sm k).fault≠0 then brkR 4 fr (if (sm k).beg then items++[(sm k).val] else items) [] (sm k).fault (sm k).pt
   else if l.length≤blankR l (sm k).pt then brkR 4 fr (if (sm k).beg then items++[(sm k).val] else items) [] 10 l.length
   else if l.getD (blankR l (sm k).pt) 0=93 then ⟨.mk 4 fr (blankR l (sm k).pt+1) [] (if (sm k).beg then items++[(sm k).val] else items) [],true,blankR l (sm k).pt+1,0⟩
   else if l.getD (blankR l (sm k).pt) 0≠44 then brkR 4 fr (if (sm k).beg then items++[(sm k).val] else items) [] 8 (blankR l (sm k).pt)
   else arrGo l sm fr f (blankR l (blankR l (sm k).pt+1)) (if (sm k).beg then items++[(sm k).val] else items)
def arrR (l:List UInt8) (sm:Nat→PartR) (k:Nat):PartR :=
 if blankR l (k+1)<l.length∧l.getD (blankR l (k+1)) 0=93 then ⟨.mk 4 k (blankR l (k+1)+1) [] [] [],true,blankR l (k+1)+1,0⟩
 else arrGo l sm k (l.length+1-blankR l (k+1)) (blankR l (k+1)) []
def nameR (l:List UInt8) (k:Nat):Option (List UInt8×Nat)×Int×Nat :=
 if l.length≤k then (none,10,l.length)
 else if l.getD k 0≠34 then (none,8,k)
 else if (quotedR l k).fault≠0 then (none,(quotedR l k).fault,(quotedR l k).pt)
 else if l.length≤blankR l (quotedR l k).pt then (none,10,l.length)
 else if l.getD (blankR l (quotedR l k).pt) 0≠58 then (none,8,blankR l (quotedR l k).pt)
 else if l.length≤blankR l (blankR l (quotedR l k).pt+1) then (none,10,l.length)
 else (some ((quotedR l k).val.tx,blankR l (blankR l (quotedR l k).pt+1)),0,0)
def objGo (l:List UInt8) (sm:Nat→PartR) (fr:Nat):Nat→Nat→List Tree→List (List UInt8)→PartR
 | 0,_,items,names=>brkR 5 fr items names 10 l.length
 | f + 1,k,items,names=>match nameR l k with
   | (none,fault,pt)=>brkR 5 fr items names fault pt
   | (some (nm,v),_,_) =>
     if (sm v).fault≠0 then brkR 5 fr (if (sm v).beg then items++[(sm v).val] else items) (if (sm v).beg then names++[nm] else names) (sm v).fault (sm v).pt
     else if l.length≤blankR l (sm v).pt then brkR 5 fr (if (sm v).beg then items++[(sm v).val] else items) (if (sm v).beg then names++[nm] else names) 10 l.length
     else if l.getD (blankR l (sm v).pt) 0=125 then ⟨.mk 5 fr (blankR l (sm v).pt+1) [] (if (sm v).beg then items++[(sm v).val] else items) (if (sm v).beg then names++[nm] else names),true,blankR l (sm v).pt+1,0⟩
     else if l.getD (blankR l (sm v).pt) 0≠44 then brkR 5 fr (if (sm v).beg then items++[(sm v).val] else items) (if (sm v).beg then names++[nm] else names) 8 (blankR l (sm v).pt)
     else objGo l sm fr f (blankR l (blankR l (sm v).pt+1)) (if (sm v).beg then items++[(sm v).val] else items) (if (sm v).beg then names++[nm] else names)
def objR (l:List UInt8) (sm:Nat→PartR) (k:Nat):PartR :=
 if blankR l (k+1)<l.length∧l.getD (blankR l (k+1)) 0=125 then ⟨.mk 5 k (blankR l (k+1)+1) [] [] [],true,blankR l (k+1)+1,0⟩
 else objGo l sm k (l.length+1-blankR l (k+1)) (blankR l (k+1)) [] []
def someR (l:List UInt8) (cl:Bool):Nat→Nat→PartR
 | 0, k=>if kindI (l.getD k 0).toNat=8 then quotedR l k else if kindI (l.getD k 0).toNat=9 then numberR l cl k else if kindI (l.getD k 0).toNat=10 then wordR l k
     else ⟨zeroT,false,k,if kindI (l.getD k 0).toNat=2∨kindI (l.getD k 0).toNat=4 then 12 else 8⟩
 | n + 1,k=>if kindI (l.getD k 0).toNat=8 then quotedR l k else if kindI (l.getD k 0).toNat=9 then numberR l cl k else if kindI (l.getD k 0).toNat=10 then wordR l k
     else if kindI (l.getD k 0).toNat=2 then arrR l (someR l cl n) k else if kindI (l.getD k 0).toNat=4 then objR l (someR l cl n) k else ⟨zeroT,false,k,8⟩
def SomeR (l:List UInt8) (d:Int) (cl:Bool):Tree×Bool×Int×Nat :=
 if l.length≤blankR l 0 then (zeroT,false,if cl then 11 else 0,l.length)
 else if (someR l cl (newN d).most (blankR l 0)).fault=10∧cl=false then ((someR l cl (newN d).most (blankR l 0)).val,(someR l cl (newN d).most (blankR l 0)).beg,0,l.length)
 else if (someR l cl (newN d).most (blankR l 0)).fault≠0 then ((someR l cl (newN d).most (blankR l 0)).val,(someR l cl (newN d).most (blankR l 0)).beg,(someR l cl (newN d).most (blankR l 0)).fault,(someR l cl (newN d).most (blankR l 0)).pt)
 else if blankR l (someR l cl (newN d).most (blankR l 0)).pt<l.length then ((someR l cl (newN d).most (blankR l 0)).val,true,9,blankR l (someR l cl (newN d).most (blankR l 0)).pt)
 else ((someR l cl (newN d).most (blankR l 0)).val,true,if cl then 1 else 0,l.length)
def ParseR (l:List UInt8)(d:Int):Tree×Int×Nat:=if (SomeR l d true).2.2.1=1 then ((SomeR l d true).1,(SomeR l d true).2.2) else (zeroT,(SomeR l d true).2.2)
end
end Go.Proofs.YtbpilcklglhloaaGreatDoor
