/- Lemmas. -/
import Derived.Test.YtbpilcklglhloaaGreatDoorJ11
import Derived.Lib.SlBytesConst
set_option maxRecDepth 100000
set_option maxHeartbeats 8000000
set_option linter.unusedVariables false
namespace Go.Proofs.YtbpilcklglhloaaGreatDoor
section
open Go.RowKit
def tokCells (t:Tok):List Value:=[.int .i64 t.kind,.bool t.begun,.int .i64 t.fr,.int .i64 t.to,.string ⟨t.text.toArray⟩]
def Toks (w:World) (v:Value) (ts:List Tok):Prop :=
 ∃ (A:Option Addr) (c:Nat),v=.slice A ts.length c∧ts.length≤c∧ts.length≤1000000∧(0<ts.length → ∃ b o:Nat,A=some ⟨b,o,none⟩∧b<w.heap.size ∧ ∀ (i:Nat) (t:Tok),ts[i]?=some t →
   w.cell? ⟨b,o+i*5,none⟩=some (.int .i64 t.kind)∧w.cell? ⟨b,o+i*5+1,none⟩=some (.bool t.begun)∧w.cell? ⟨b,o+i*5+2,none⟩=some (.int .i64 t.fr) ∧
   w.cell? ⟨b,o+i*5+3,none⟩=some (.int .i64 t.to)∧w.cell? ⟨b,o+i*5+4,none⟩=some (.string ⟨t.text.toArray⟩))
theorem Toks.stay {w w':World} {v:Value} {ts:List Tok} (h:Toks w v ts) {B:Nat} (hb:Below B w w') (hB:w.heap.size≤B):Toks w' v ts:=by
 obtain ⟨A,c,e,h1,h2,h3⟩:=h
 refine ⟨A,c,e,h1,h2,fun hn => ?_⟩
 obtain ⟨b,o,e,hlt,hc⟩:=h3 hn
 refine ⟨b,o,e,by have:=hb.size;omega,fun i t ht => ?_⟩
 obtain ⟨g1,g2,g3,g4,g5⟩:=hc i t ht
 have hcell:∀ k,w'.cell? ⟨b,k,none⟩=w.cell? ⟨b,k,none⟩:=fun k=>hb.cell (p:=⟨b,k,none⟩) (by show b<B;omega)
 exact ⟨(hcell _).trans g1,(hcell _).trans g2,(hcell _).trans g3,(hcell _).trans g4,(hcell _).trans g5⟩
end
section
structure Stp where
 named:Bool
 name:List UInt8
 index:Nat
structure Evt where
 kind:Int
 value:Int
 fr:Nat
 to:Nat
 step:Stp
 text:List UInt8
inductive May where
 | value|item|member|name|colon|next|nothing|broken
structure Opn where
 obj:Bool
 fr:Nat
 step:Stp
 many:Nat
 name:List UInt8
structure Nst where
 most:Nat
 op:List Opn
 may:May
 begun:Int
 came:Bool
def Opn.kd (o:Opn):Int:=if o.obj then 5 else 4
def stepO:List Opn→Stp
 | []=>⟨false,[],0⟩
 | o :: _=>if o.obj then ⟨true,o.name,0⟩ else ⟨false,[],o.many⟩
def newN (d:Int):Nst:=⟨if d<1 then 1 else d.toNat,[],.value,0,false⟩
def moreO:List Opn→List Opn
 | []=>[]
 | o :: r => { o with many:=o.many+1 } :: r
def nameO (s:List UInt8):List Opn→List Opn
 | []=>[]
 | o :: r => { o with name:=s } :: r
def endedN (n:Nst):Nst:={ n with op:=moreO n.op,may:=if n.op.isEmpty then .nothing else .next }
def badN (n:Nst)(k:Int):Nst×List Evt×Int:=({ n with may:=.broken },[],k)
def scalarK (t:Tok):Int:=if t.kind=8 then 3 else if t.kind=9 then 2 else if t.text=lN then 0 else 1
def beginK (k:Int):Int:=if k=8 then 3 else if k=9 then 2 else 0
def May.val:May→Bool
 | .value=>true
 | .item=>true
 | _=>false
def May.nam:May→Bool
 | .member=>true
 | .name=>true
 | _=>false
def isArr:List Opn→Bool
 | o :: _ => !o.obj
 | []=>false
def isObj:List Opn→Bool
 | o :: _=>o.obj
 | []=>false
def takeO (n:Nst) (t:Tok):Nst×List Evt×Int:=match n.may with
 | .broken=>(n,[],14)
 | .nothing=>badN n 9
 | m =>
   if t.begun then
     if t.kind=8∧m.nam=true then ({ n with begun:=8,came:=true },[],0)
     else if m.val=true then ({ n with begun:=t.kind,came:=true },[⟨1,beginK t.kind,t.fr,0,stepO n.op,[]⟩],0)
     else badN { n with came:=true } 8
   else if (t.kind=2∨t.kind=4)∧m.val=true then
     if n.most≤n.op.length then badN { n with came:=true } 12
     else ({ n with op:=⟨decide (t.kind=4),t.fr,stepO n.op,0,[]⟩ :: n.op,may:=if t.kind=4 then .member else .item,came:=true },[⟨1,t.kind/4+4,t.fr,0,stepO n.op,[]⟩],0)
   else match m,n.op with
     | .item,o :: r=>if t.kind=3 then ({ endedN { n with op:=r } with came:=true },[⟨2,o.kd,o.fr,t.to,o.step,[]⟩],0) else badN { n with came:=true } 8
     | .member,o :: r=>if t.kind=5 then ({ endedN { n with op:=r } with came:=true },[⟨2,o.kd,o.fr,t.to,o.step,[]⟩],0) else badN { n with came:=true } 8
     | .next,o :: r=>if t.kind=(if o.obj then 5 else 3) then ({ endedN { n with op:=r } with came:=true },[⟨2,o.kd,o.fr,t.to,o.step,[]⟩],0)
         else if t.kind=6 then ({ n with may:=if o.obj then .name else .value,came:=true },[],0) else badN { n with came:=true } 8
     | .colon,_=>if t.kind=7 then ({ n with may:=.value,came:=true },[],0) else badN { n with came:=true } 8
     | _,_=>badN { n with came:=true } 8
def takeN (n:Nst) (t:Tok):Nst×List Evt×Int :=
 if n.begun=0 then takeO n t
 else if n.may.nam=true then ({ n with begun:=0,op:=nameO t.text n.op,may:=.colon },[],0)
 else ({ endedN n with begun:=0 },[⟨2,scalarK t,t.fr,t.to,stepO n.op,t.text⟩],0)
def okW (p:Option (Int×Nat)) (t:Tok):Prop:=match p with
 | none=>if t.begun then 8≤t.kind∧t.kind≤10 else 2≤t.kind∧t.kind≤7
 | some (k,f)=>t.begun=false∧t.kind=k∧t.fr=f∧(k=10→t.text=lT∨t.text=lF∨t.text=lN)
def nextW (t:Tok):Option (Int×Nat):=if t.begun then some (t.kind,t.fr) else none
def WfTo:List Tok→Option (Int×Nat)→Option (Int×Nat)→Prop
 | [],p,q=>p=q
 | t :: ts,p,q=>okW p t∧WfTo ts (nextW t) q
def pendL:LSt→Option (Int×Nat)
 | .num _ f _=>some (9,f)
 | .word f _=>some (10,f)
 | .str _ f _=>some (8,f)
 | _=>none
def WStep (p:Option (Int×Nat))(r:List Tok×Int×LSt):Prop:=∃ q,WfTo r.1 p q∧(r.2.1=0→q=pendL r.2.2)
theorem out_wf (k:Nat) (c:UInt8):WStep none (outL k c):=by
 have hk:∀ n:Nat,n<256→kindI n≤10∧0≤kindI n:=by decide +kernel
 have hc:=hk c.toNat (UInt8.toNat_lt c)
 unfold outL
 split
 ·exact ⟨none,rfl,fun _=>rfl⟩
 split
 ·exact ⟨none,rfl,fun e=>by cases e⟩
 split
 ·rename_i h1 h2 h3
  exact ⟨none,⟨⟨by show (2:Int)≤kindI c.toNat;omega,by show kindI c.toNat≤7;omega⟩,rfl⟩,fun _=>rfl⟩
 split
 ·exact ⟨_,⟨⟨by show (8:Int)≤8;omega,by show (8:Int)≤10;omega⟩,rfl⟩,fun _=>rfl⟩
 split
 ·exact ⟨_,⟨⟨by show (8:Int)≤9;omega,by show (9:Int)≤10;omega⟩,rfl⟩,fun _=>rfl⟩
 ·exact ⟨_,⟨⟨by show (8:Int)≤10;omega,by show (10:Int)≤10;omega⟩,rfl⟩,fun _=>rfl⟩
theorem stepL_wf (st:LSt) (k:Nat) (c:UInt8) (hd:st≠.dead):WStep (pendL st) (stepL st k c):=by
 cases st with
 | dead=>exact absurd rfl hd
 | out=>exact out_wf k c
 | num a f p =>
   show WStep (some (9,f)) (if nxI a c.toNat≠0 then ([],0,LSt.num (nxI a c.toNat) f (p++[c])) else
     if whI a && !stickI c.toNat then (⟨9,false,f,k,p⟩ :: (outL k c).1,(outL k c).2.1,(outL k c).2.2) else ([],5,.dead))
   split
   ·exact ⟨_,rfl,fun _=>rfl⟩
   split
   ·obtain ⟨q,h1,h2⟩:=out_wf k c
    exact ⟨q,⟨⟨rfl,rfl,rfl,fun e=>by cases e⟩,h1⟩,h2⟩
   ·exact ⟨_,rfl,fun e=>by cases e⟩
 | word f p =>
   show WStep (some (10,f)) (if refL (p++[c])=2 then ([],6,LSt.dead) else if refL (p++[c])=1 then ([⟨10,false,f,k+1,p++[c]⟩],0,.out) else ([],0,.word f (p++[c])))
   split
   ·exact ⟨_,rfl,fun e=>by cases e⟩
   split
   ·rename_i h
    exact ⟨none,⟨⟨rfl,rfl,rfl,fun _=>ref_one h⟩,rfl⟩,fun _=>rfl⟩
   ·exact ⟨_,rfl,fun _=>rfl⟩
 | str q f acc =>
   show WStep (some (8,f)) (strL q f acc k c (stepQ q c))
   cases hs:stepQ q c with
   | none=>exact ⟨_,rfl,fun e=>absurd e (faultQ_ne q c).2⟩
   | some x =>
     obtain ⟨q',e⟩:=x
     cases q'<;>first
       | exact ⟨_,rfl,fun _=>rfl⟩
       | exact ⟨none,⟨⟨rfl,rfl,rfl,fun e=>by cases e⟩,rfl⟩,fun _=>rfl⟩
theorem closeL_wf (st:LSt) (k:Nat) (hd:st≠.dead):∃ q,WfTo (closeL st k).1 (pendL st) q:=by
 cases st with
 | dead=>exact absurd rfl hd
 | out=>exact ⟨_,rfl⟩
 | num a f p =>
   show ∃ q,WfTo (if whI a then (([⟨9,false,f,k,p⟩],1):List Tok×Int) else ([],10)).1 (some (9,f)) q
   split
   ·exact ⟨none,⟨rfl,rfl,rfl,fun e=>by cases e⟩,rfl⟩
   ·exact ⟨_,rfl⟩
 | word f p=>exact ⟨_,rfl⟩
 | str q f acc=>exact ⟨_,rfl⟩
end
section
def opE (o:Opn):Evt:=⟨1,o.kd,o.fr,0,o.step,[]⟩
def evP (n:Nst):Option (Int×Nat)→List Evt
 | some (k,f)=>if n.may.val then [⟨1,beginK k,f,0,stepO n.op,[]⟩] else []
 | none=>[]
def evs (n:Nst)(p:Option (Int×Nat)):List Evt:=n.op.reverse.map opE++evP n p
def ctF:Nat→List Opn→List Nat
 | c,[]=>[c]
 | c,o :: r=>(o.many+c) :: ctF 1 r
def May.isNothing:May→Bool
 | .nothing=>true
 | _=>false
def cB (n:Nst)(p:Option (Int×Nat)):Nat:=if (evP n p).isEmpty && !n.may.isNothing then 0 else 1
def cts (n:Nst)(p:Option (Int×Nat)):List Nat:=(ctF (cB n p) n.op).reverse++(evP n p).map fun _=>0
structure InvN (n:Nst) (s:Nat×Option Nat) (p:Option (Int×Nat)):Prop where
 most:1≤n.most
 deep:n.op.length≤n.most
 none:p=none→n.begun=0∧s.2=none
 some:∀ k f,p=some (k,f)→n.begun=k∧8≤k∧k≤10∧s.2=some f∧(n.may.val=true∨n.may.nam=true)
 noth:n.may.isNothing=true→n.op=[]
 low:∀ o∈n.op,o.fr<s.1
def DoesN (n n':Nst) (p p':Option (Int×Nat)) (es:List Evt):Prop :=
 (es=[]∧evs n' p'=evs n p∧cts n' p'=cts n p) ∨
 (∃ e,es=[e]∧e.kind=1∧evs n' p'=evs n p++[e]∧(∃ cs c,cts n p=cs++[c]∧cts n' p'=cs++[c+1]++[0] ∧ ∀ o,(evs n p).getLast?=some o→(o.value=4→e.step.named=false∧e.step.index=c)∧(o.value=5→e.step.named=true))) ∨
 (∃ e o c,es=[e]∧e.kind=2∧evs n p=evs n' p'++[o]∧cts n p=cts n' p'++[c]∧o.fr=e.fr∧o.step=e.step∧(e.value=o.value∨e.value=1)∧e.fr<e.to)
theorem opE_more (l:List Opn):(moreO l).map opE=l.map opE:=by
 cases l with
 | nil=>rfl
 | cons o r=>rfl
theorem opE_name (s:List UInt8) (l:List Opn):(nameO s l).map opE=l.map opE:=by
 cases l with
 | nil=>rfl
 | cons o r=>rfl
theorem ctF_name (c:Nat) (s:List UInt8) (l:List Opn):ctF c (nameO s l)=ctF c l:=by
 cases l with
 | nil=>rfl
 | cons o r=>rfl
theorem map_rev (l:List Opn):l.reverse.map opE=(l.map opE).reverse:=by simp
theorem ct_last (l:List Opn):∃ cs c,(ctF 0 l).reverse=cs++[c]∧(ctF 1 l).reverse=cs++[c+1] ∧ ∀ o,(l.reverse.map opE).getLast?=some o→(o.value=4→(stepO l).named=false∧(stepO l).index=c)∧(o.value=5→(stepO l).named=true):=by
 cases l with
 | nil=>exact ⟨[],0,rfl,rfl,fun o h=>by simp at h⟩
 | cons o r =>
   refine ⟨(ctF 1 r).reverse,o.many,by simp[ctF],by simp[ctF],fun x h => ?_⟩
   have hx:opE o=x:=by simpa using h
   subst hx
   cases ho:o.obj<;>simp[opE,Opn.kd,stepO,ho]
theorem ct_ended (l:List Opn):ctF (if l.isEmpty then 1 else 0) (moreO l)=ctF 1 l:=by
 cases l with
 | nil=>rfl
 | cons o r=>simp[moreO,ctF]
section
variable {n:Nst} {s:Nat×Option Nat} {p:Option (Int×Nat)}
theorem InvN.start (d:Int):InvN (newN d) (0,Option.none) Option.none:=by
 refine ⟨?_,Nat.zero_le _,fun _=>⟨rfl,rfl⟩,(fun k f e=>by cases e),fun _=>rfl,(fun o h=>by simp[newN] at h)⟩
 show 1≤if d<1 then 1 else d.toNat
 split<;>omega
theorem evP_none (n:Nst):evP n Option.none=[]:=rfl
theorem cB_none (h:n.may.isNothing=false):cB n Option.none=0:=by simp[cB,evP_none,h]
theorem does_open (n:Nst) (n':Nst) (p':Option (Int×Nat)) (e:Evt) (hk:e.kind=1) (hs:e.step=stepO n.op) (hn:n.may.isNothing=false) (he:evs n' p'=evs n Option.none++[e]) (hc:cts n' p'=(ctF 1 n.op).reverse++[0]):DoesN n n' Option.none p' [e]:=by
 obtain ⟨cs,c,h1,h2,h3⟩:=ct_last n.op
 refine .inr (.inl ⟨e,rfl,hk,he,cs,c,?_,by rw[hc,h2],fun o ho => ?_⟩)
 ·unfold cts
  rw[cB_none hn,evP_none,h1]
  simp
 ·rw[hs]
  refine h3 o ?_
  simpa [evs,evP_none] using ho
theorem does_close (o:Opn) (r:List Opn) (n':Nst) (to:Nat) (hop:n.op=o :: r) (hn:n.may.isNothing=false) (hto:o.fr<to) (h':n'.op=moreO r) (hm:n'.may=if r.isEmpty then .nothing else .next):DoesN n n' Option.none Option.none [⟨2,o.kd,o.fr,to,o.step,[]⟩]:=by
 refine .inr (.inr ⟨_,opE o,o.many,rfl,rfl,?_,?_,rfl,rfl,.inl rfl,hto⟩)
 ·unfold evs
  rw[evP_none,evP_none,hop,h',map_rev,map_rev,opE_more]
  simp
 ·unfold cts
  rw[cB_none hn,evP_none,evP_none,hop,h']
  have hc:cB n' Option.none=if r.isEmpty then 1 else 0:=by
    unfold cB
    rw[hm,evP_none]
    cases r<;>rfl
  rw[hc,ct_ended]
  simp[ctF]
theorem does_none (n':Nst) (hn:n.may.isNothing=false) (hn':n'.may.isNothing=false) (p':Option (Int×Nat)) (hp:evP n' p'=[]) (h':n'.op=n.op):DoesN n n' Option.none p' []:=by
 refine .inl ⟨rfl,?_,?_⟩
 ·unfold evs;rw[hp,evP_none,h']
 ·unfold cts
  rw[cB_none hn,evP_none,hp,h']
  have:cB n' p'=0:=by simp[cB,hp,hn']
  rw[this]
end
theorem not_val {m:May}(h:m.nam=true):m.val=false:=by cases m<;>first|rfl|cases h
theorem val_not {m:May}(h:m.val=true):m.isNothing=false:=by cases m<;>first|rfl|cases h
theorem nam_not {m:May}(h:m.nam=true):m.isNothing=false:=by cases m<;>first|rfl|cases h
theorem takeO_ok (b:List UInt8) (n:Nst) (s:Nat×Option Nat) (t:Tok) (hi:InvN n s none) (ht:okTok b s t) (hw:okW none t) (h0:(takeO n t).2.2=0) :
   InvN (takeO n t).1 (nextTok s t) (nextW t)∧DoesN n (takeO n t).1 none (nextW t) (takeO n t).2.1:=by
 obtain ⟨hb,hs2⟩:=hi.none rfl
 obtain ⟨most,op,may,begun,came⟩:=n
 obtain ⟨kd,bg,fr,to,tx⟩:=t
 have hb:begun=0:=hb
 subst hb
 cases bg with
 | true =>
   obtain ⟨g1,g2,g3,g4⟩:s.2=none∧s.1≤fr∧to=fr∧fr<b.length:=ht
   obtain ⟨w1,w2⟩:8≤kd∧kd≤10:=hw
   have key:∀ m:May,m=may→m≠.broken→m≠.nothing→takeO ⟨most,op,may,0,came⟩ ⟨kd,true,fr,to,tx⟩ =
       (if kd=8∧m.nam=true then (⟨most,op,may,8,true⟩,[],0) else if m.val=true then (⟨most,op,may,kd,true⟩,[⟨1,beginK kd,fr,0,stepO op,[]⟩],0) else badN ⟨most,op,may,0,true⟩ 8):=by
     rintro m rfl h1 h2
     cases m<;>first|exact absurd rfl h1|exact absurd rfl h2|rfl
   by_cases h1:may=.broken
   ·subst h1;exact absurd h0 (by show (14:Int)≠0;decide)
   by_cases h2:may=.nothing
   ·subst h2;exact absurd h0 (by show (9:Int)≠0;decide)
   have hk:=key may rfl h1 h2
   rw[hk] at h0 ⊢
   have hn:may.isNothing=false:=by cases may<;>first|rfl|exact absurd rfl h2
   by_cases h8:kd=8∧may.nam=true
   ·rw [if_pos h8] at h0 ⊢
    obtain ⟨rfl,hna⟩:=h8
    refine ⟨⟨hi.most,hi.deep,(fun e=>by cases e),(fun k f e => ?_),hi.noth,hi.low⟩,?_⟩
    ·injection e with e
     injection e with e1 e2
     subst e1 e2
     exact ⟨rfl,by omega,by omega,rfl,.inr hna⟩
    ·exact does_none _ hn hn _ (show evP _ (some (8,fr))=[] by simp[evP,not_val hna]) rfl
   ·rw [if_neg h8] at h0 ⊢
    by_cases hv:may.val=true
    ·rw [if_pos hv] at h0 ⊢
     refine ⟨⟨hi.most,hi.deep,(fun e=>by cases e),(fun k f e => ?_),hi.noth,hi.low⟩,?_⟩
     ·injection e with e
      injection e with e1 e2
      subst e1 e2
      exact ⟨rfl,w1,w2,rfl,.inl hv⟩
     ·have hp:evP ⟨most,op,may,kd,true⟩ (some (kd,fr))=[⟨1,beginK kd,fr,0,stepO op,[]⟩]:=by simp[evP,hv]
      refine does_open ⟨most,op,may,0,came⟩ _ (some (kd,fr)) _ rfl rfl hn ?_ ?_
      ·unfold evs;rw[hp,evP_none];simp
      ·unfold cts;rw[hp];simp[cB,hp]
    ·rw[if_neg hv] at h0
     exact absurd h0 (by show (8:Int)≠0;decide)
 | false =>
   obtain ⟨g1,g2,g3,g4,g5⟩:(s.2=none∨s.2=some fr)∧s.1≤fr∧fr<to∧to≤b.length∧AllBlank b s.1 fr:=ht
   obtain ⟨w1,w2⟩:2≤kd∧kd≤7:=hw
   have hlow:∀ o∈op,o.fr<to:=fun o ho=>by have:o.fr<s.1:=hi.low o ho;omega
   have close:∀ (o:Opn) (r:List Opn) (m:May),op=o :: r→m.isNothing=false→InvN { endedN (⟨most,r,m,0,came⟩:Nst) with came:=true } (to,none) none ∧
       DoesN ⟨most,op,m,0,came⟩ { endedN (⟨most,r,m,0,came⟩:Nst) with came:=true } none none [⟨2,o.kd,o.fr,to,o.step,[]⟩]:=by
     rintro o r m rfl hm
     refine ⟨⟨hi.most,?_,fun _=>⟨rfl,rfl⟩,(fun k f e=>by cases e),?_,?_⟩,does_close o r _ to rfl hm (hlow o (by simp)) rfl rfl⟩
     ·have:=hi.deep
      show (moreO r).length≤most
      cases r<;>simp[moreO] at this ⊢ <;> omega
     ·cases r with
      | nil=>intro _;rfl
      | cons q r=>intro h;cases h
     ·intro x hx
      cases r with
      | nil=>cases hx
      | cons q r =>
        rcases List.mem_cons.1 hx with rfl|hx
        ·exact hlow q (by simp)
        ·exact hlow x (by simp[hx])
   have stay:∀ (m m':May),m.isNothing=false→m'.isNothing=false→InvN (⟨most,op,m',0,true⟩:Nst) (to,none) none∧DoesN ⟨most,op,m,0,came⟩ ⟨most,op,m',0,true⟩ none none []:=fun m m' hm hm' =>
     ⟨⟨hi.most,hi.deep,fun _=>⟨rfl,rfl⟩,(fun k f e=>by cases e),(fun h=>by rw[hm'] at h;cases h),hlow⟩,does_none _ hm hm' none rfl rfl⟩
   have opens:∀ m:May,m=may→m.val=true→kd=2∨kd=4→op.length<most→InvN (⟨most,⟨decide (kd=4),fr,stepO op,0,[]⟩ :: op,if kd=4 then .member else .item,0,true⟩:Nst) (to,none) none ∧
       DoesN ⟨most,op,m,0,came⟩ ⟨most,⟨decide (kd=4),fr,stepO op,0,[]⟩ :: op,if kd=4 then .member else .item,0,true⟩ none none [⟨1,kd/4+4,fr,0,stepO op,[]⟩]:=by
     rintro m rfl hm hk hlt
     have hmay:(if kd=4 then May.member else May.item).isNothing=false:=by split<;>rfl
     refine ⟨⟨hi.most,(show (_ :: op).length≤most from hlt),fun _=>⟨rfl,rfl⟩,(fun k f e=>by cases e),(fun h=>by rw[hmay] at h;cases h),?_⟩,?_⟩
     ·intro x hx
      rcases List.mem_cons.1 hx with rfl|hx
      ·exact g3
      ·exact hlow x hx
     ·have hkd:kd/4+4=(⟨decide (kd=4),fr,stepO op,0,[]⟩:Opn).kd:=by
        rcases hk with rfl|rfl<;>rfl
      refine does_open ⟨most,op,m,0,came⟩ _ none _ rfl rfl (val_not hm) ?_ ?_
      ·unfold evs
       rw[evP_none,evP_none,hkd]
       simp[opE]
      ·unfold cts
       rw[cB_none hmay,evP_none]
       simp[ctF]
   show InvN (takeO ⟨most,op,may,0,came⟩ ⟨kd,false,fr,to,tx⟩).1 (to,none) none∧DoesN ⟨most,op,may,0,came⟩ (takeO ⟨most,op,may,0,came⟩ ⟨kd,false,fr,to,tx⟩).1 none none (takeO ⟨most,op,may,0,came⟩ ⟨kd,false,fr,to,tx⟩).2.1
   by_cases hop:(kd=2∨kd=4)∧may.val=true
   ·have e:takeO ⟨most,op,may,0,came⟩ ⟨kd,false,fr,to,tx⟩=if most≤op.length then badN ⟨most,op,may,0,true⟩ 12 else (⟨most,⟨decide (kd=4),fr,stepO op,0,[]⟩ :: op,if kd=4 then .member else .item,0,true⟩,[⟨1,kd/4+4,fr,0,stepO op,[]⟩],0):=by
      have hv:=hop.2
      cases may<;>first|(cases hv;done)|(unfold takeO;simp only [];rw[if_neg (by simp),if_pos hop])
    rw[e] at h0 ⊢
    by_cases hd:most≤op.length
    ·rw[if_pos hd] at h0
     exact absurd h0 (by show (12:Int)≠0;decide)
    ·rw[if_neg hd]
     exact opens may rfl hop.2 hop.1 (by omega)
   ·cases may with
    | broken=>exact absurd h0 (by show (14:Int)≠0;decide)
    | nothing=>exact absurd h0 (by show (9:Int)≠0;decide)
    | value =>
      unfold takeO at h0
      simp only [] at h0
      rw[if_neg (by simp),if_neg hop] at h0
      exact absurd h0 (by simp[badN])
    | name =>
      unfold takeO at h0
      simp only [] at h0
      rw[if_neg (by simp),if_neg hop] at h0
      exact absurd h0 (by simp[badN])
    | item =>
      cases hl:op with
      | nil =>
        unfold takeO at h0
        simp only [hl] at h0
        rw[if_neg (by simp),if_neg hop] at h0
        exact absurd h0 (by simp[badN])
      | cons o r =>
        unfold takeO at h0 ⊢
        simp only [hl] at h0 ⊢
        rw[if_neg (by simp),if_neg hop] at h0 ⊢
        by_cases hk:kd=3
        ·rw[if_pos hk]
         subst hl
         exact close o r .item rfl rfl
        ·rw[if_neg hk] at h0
         exact absurd h0 (by simp[badN])
    | member =>
      cases hl:op with
      | nil =>
        unfold takeO at h0
        simp only [hl] at h0
        rw[if_neg (by simp),if_neg hop] at h0
        exact absurd h0 (by simp[badN])
      | cons o r =>
        unfold takeO at h0 ⊢
        simp only [hl] at h0 ⊢
        rw[if_neg (by simp),if_neg hop] at h0 ⊢
        by_cases hk:kd=5
        ·rw[if_pos hk]
         subst hl
         exact close o r .member rfl rfl
        ·rw[if_neg hk] at h0
         exact absurd h0 (by simp[badN])
    | next =>
      cases hl:op with
      | nil =>
        unfold takeO at h0
        simp only [hl] at h0
        rw[if_neg (by simp),if_neg hop] at h0
        exact absurd h0 (by simp[badN])
      | cons o r =>
        unfold takeO at h0 ⊢
        simp only [hl] at h0 ⊢
        rw[if_neg (by simp),if_neg hop] at h0 ⊢
        by_cases hk:kd=if o.obj=true then 5 else 3
        ·rw[if_pos hk]
         subst hl
         exact close o r .next rfl rfl
        ·rw [if_neg hk] at h0 ⊢
         by_cases h6:kd=6
         ·rw[if_pos h6]
          subst hl
          cases ho:o.obj
          ·exact stay .next .value rfl rfl
          ·exact stay .next .name rfl rfl
         ·rw[if_neg h6] at h0
          exact absurd h0 (by simp[badN])
    | colon =>
      unfold takeO at h0 ⊢
      simp only [] at h0 ⊢
      rw[if_neg (by simp),if_neg hop] at h0 ⊢
      by_cases hk:kd=7
      ·rw[if_pos hk]
       exact stay .colon .value rfl rfl
      ·rw[if_neg hk] at h0
       exact absurd h0 (by simp[badN])
theorem takeN_ok (b : List UInt8) (n : Nst) (s:Nat×Option Nat) (p:Option (Int×Nat)) (t:Tok) (hi:InvN n s p) (ht:okTok b s t) (hw:okW p t) (h0:(takeN n t).2.2=0) :
   InvN (takeN n t).1 (nextTok s t) (nextW t)∧DoesN n (takeN n t).1 p (nextW t) (takeN n t).2.1:=by
 cases p with
 | none =>
   have e:takeN n t=takeO n t:=by unfold takeN;rw[if_pos (hi.none rfl).1]
   rw[e] at h0 ⊢
   exact takeO_ok b n s t hi ht hw h0
 | some kf =>
   obtain ⟨k,f⟩:=kf
   obtain ⟨g1,g2,g3,g4,g5⟩:=hi.some k f rfl
   obtain ⟨w1,w2,w3,w4⟩:=hw
   obtain ⟨kd,bg,fr,to,tx⟩:=t
   have w1:bg=false:=w1
   have w2:kd=k:=w2
   have w3:fr=f:=w3
   subst w1 w2 w3
   obtain ⟨t1,t2,t3,t4,t5⟩:(s.2=none∨s.2=some fr)∧s.1≤fr∧fr<to∧to≤b.length∧AllBlank b s.1 fr:=ht
   obtain ⟨most,op,may,begun,came⟩:=n
   have g1:begun=kd:=g1
   subst g1
   have hb:¬ begun=0:=by omega
   have hlow:∀ o∈op,o.fr<to:=fun o ho=>by have:o.fr<s.1:=hi.low o ho;omega
   show InvN (takeN ⟨most,op,may,begun,came⟩ ⟨begun,false,fr,to,tx⟩).1 (to,none) none∧DoesN ⟨most,op,may,begun,came⟩ (takeN ⟨most,op,may,begun,came⟩ ⟨begun,false,fr,to,tx⟩).1 _ none (takeN ⟨most,op,may,begun,came⟩ ⟨begun,false,fr,to,tx⟩).2.1
   unfold takeN
   rw[if_neg hb]
   by_cases hn:may.nam=true
   ·rw [if_pos hn]
    have hp:evP ⟨most,op,may,begun,came⟩ (some (begun,fr))=[]:=by simp[evP,not_val hn]
    refine ⟨⟨hi.most,?_,fun _=>⟨rfl,rfl⟩,(fun k f e=>by cases e),(fun h=>by cases h),?_⟩,.inl ⟨rfl,?_,?_⟩⟩
    ·have:=hi.deep
     show (nameO tx op).length≤most
     cases op with
     | nil=>simp[nameO]
     | cons q r=>simpa [nameO] using this
    ·intro o ho
     cases op with
     | nil=>cases ho
     | cons q r =>
       rcases List.mem_cons.1 ho with rfl|ho
       ·exact hlow q (by simp)
       ·exact hlow o (by simp[ho])
    ·unfold evs
     rw[hp,evP_none,map_rev,map_rev,opE_name]
    ·unfold cts
     rw[hp,evP_none,ctF_name]
     have:cB ⟨most,op,may,begun,came⟩ (some (begun,fr))=0:=by simp[cB,hp,nam_not hn]
     rw[this]
     rfl
   ·rw [if_neg hn]
    have hv : may.val = true := by rcases g5 with h|h
                                   ·exact h
                                   ·exact absurd h hn
    have hp:evP ⟨most,op,may,begun,came⟩ (some (begun,fr))=[⟨1,beginK begun,fr,0,stepO op,[]⟩]:=by simp[evP,hv]
    refine ⟨⟨hi.most,?_,fun _=>⟨rfl,rfl⟩,(fun k f e=>by cases e),?_,?_⟩,.inr (.inr ⟨_,⟨1,beginK begun,fr,0,stepO op,[]⟩,0,rfl,rfl,?_,?_,rfl,rfl,?_,t3⟩)⟩
    ·have:=hi.deep
     show (moreO op).length≤most
     cases op with
     | nil=>simp[moreO]
     | cons q r=>simpa [moreO] using this
    ·cases op with
     | nil=>intro _;rfl
     | cons q r=>intro h;cases h
    ·intro o ho
     cases op with
     | nil=>cases ho
     | cons q r =>
       rcases List.mem_cons.1 ho with rfl|ho
       ·exact hlow q (by simp)
       ·exact hlow o (by simp[ho])
    ·unfold evs
     rw[hp,evP_none,map_rev,map_rev]
     show _=(((moreO op).map opE).reverse++[])++_
     rw[opE_more]
     simp
    ·unfold cts
     rw[hp,evP_none]
     show (ctF (cB ⟨most,op,may,begun,came⟩ (some (begun,fr))) op).reverse++_=(ctF (cB { endedN ⟨most,op,may,begun,came⟩ with begun:=0 } none) (moreO op)).reverse++[]++_
     have e1:cB ⟨most,op,may,begun,came⟩ (some (begun,fr))=1:=by simp[cB,hp]
     have e2:cB { endedN (⟨most,op,may,begun,came⟩:Nst) with begun:=0 } none=if op.isEmpty then 1 else 0:=by
       unfold cB
       rw[evP_none]
       cases op<;>rfl
     rw[e1,e2,ct_ended]
     simp
    ·have hk:begun=8∨begun=9∨begun=10:=by omega
     rcases hk with rfl|rfl|rfl
     ·exact .inl rfl
     ·exact .inl rfl
     ·show scalarK ⟨10,false,fr,to,tx⟩=beginK 10∨scalarK ⟨10,false,fr,to,tx⟩=1
      unfold scalarK
      simp only []
      rw[if_neg (by decide),if_neg (by decide)]
      split
      ·exact .inl rfl
      ·exact .inr rfl
theorem takeN_one (n:Nst) (t:Tok):((takeN n t).2.2≠0→(takeN n t).2.1=[])∧(takeN n t).2.1.length≤1:=by
 have ho:((takeO n t).2.2≠0→(takeO n t).2.1=[])∧(takeO n t).2.1.length≤1:=by
   obtain ⟨most,op,may,begun,came⟩:=n
   cases may<;>cases op<;>unfold takeO<;>simp only []<;>(repeat' split)<;>simp[badN]
 unfold takeN
 split
 ·exact ho
 ·split<;>simp
end
section
open Go.RowKit
structure RowK (α:Type) where
 T:TypeId
 S:TypeId
 n:Nat
 bytes:Nat
 zero:Value
 enc:α→List Value
 pos:0<n
 len:∀ a,(enc a).length=n
 one:∀ a,∀ u∈enc a,u.oneCell'=true
 under:Tryz.prog.underlying S=some (.slice T)
 info:(Tryz.prog.info? T).map (fun i=>(i.zero,i.size,i.bytes))=some (some zero,n,bytes)
 zlen:zero.cells.size=n
 small:bytes≤1000
section
variable {α:Type} (K:RowK α)
def RowK.all:List α→List Value
 | []=>[]
 | a :: t=>K.enc a++RowK.all t
theorem RowK.all_len:∀ l:List α,(K.all l).length=l.length*K.n
 | []=>by simp[RowK.all]
 | a :: t=>by simp[RowK.all,K.len,RowK.all_len t,Nat.add_mul];omega
theorem RowK.all_append:∀ l m:List α,K.all (l++m)=K.all l++K.all m
 | [],m=>rfl
 | a :: t,m=>by simp[RowK.all,RowK.all_append t m]
theorem RowK.all_one:∀ l:List α,∀ u∈K.all l,u.oneCell'=true
 | [],u,h=>by cases h
 | a :: t,u,h=>by
   rcases List.mem_append.1 h with h|h
   ·exact K.one a u h
   ·exact RowK.all_one t u h
theorem RowK.all_at:∀ (l:List α) (i:Nat) (a:α),l[i]?=some a → ∀ j,j<K.n→(K.all l)[i*K.n+j]?=(K.enc a)[j]?
 | [],i,a,h=>by cases h
 | u :: t,0,a,h=>by
   intro j hj
   obtain rfl:u=a:=by simpa using h
   show (K.enc u++K.all t)[0*K.n+j]?=_
   rw[Nat.zero_mul,Nat.zero_add,List.getElem?_append_left (by rw[K.len];exact hj)]
 | u :: t,i+1,a,h=>by
   intro j hj
   have:=RowK.all_at t i a (by simpa using h) j hj
   rw[← this]
   show (K.enc u++K.all t)[(i+1)*K.n+j]?=_
   rw[List.getElem?_append_right (by rw[K.len,Nat.add_mul];omega),K.len]
   congr 1
   rw[Nat.add_mul]
   omega
theorem RowK.all_take:∀ (l:List α) (k:Nat),K.all (l.take k)=(K.all l).take (k*K.n)
 | [],k=>by simp[RowK.all]
 | a :: t,0=>by simp[RowK.all]
 | a :: t,k+1=>by
   rw[List.take_succ_cons]
   show K.enc a++K.all (t.take k)=(K.enc a++K.all t).take ((k+1)*K.n)
   have e1:(K.enc a).take ((k+1)*K.n)=K.enc a:=List.take_of_length_le (by rw[K.len,Nat.add_mul];omega)
   have e2:(k+1)*K.n-K.n=k*K.n:=by rw[Nat.add_mul];omega
   rw[RowK.all_take t k,List.take_append,K.len,e1,e2]
def RdG (w:World) (A:Option Addr) (m:Nat) (l:List α):Prop :=
 l.length=m∧(0<m → ∃ b o:Nat,A=some ⟨b,o,none⟩∧b<w.heap.size ∧ ∀ j u,(K.all l)[j]?=some u→w.cell? ⟨b,o+j,none⟩=some u)
def GRow (w:World)(base:Nat)(v:Value)(l:List α):Prop:=w.ownsRow base K.T K.n v l.length (K.all l)
variable {K} {w w':World} {base:Nat} {v:Value} {l:List α}
theorem GRow.nil (w:World)(base:Nat):GRow K w base (.slice none 0 0) []:=⟨by simp[RowK.all],.inl ⟨rfl,rfl⟩⟩
theorem GRow.form (h:GRow K w base v l):∃ A c,v=.slice A l.length c∧l.length≤c∧c≤maxLen∧(0<l.length → ∃ g,A=some ⟨g,0,none⟩∧base≤g∧g<w.heap.size):=by
 rcases h.2 with ⟨rfl,h0⟩|⟨g,c,cur,rfl,hb,hg,h1,h2,_⟩
 ·exact ⟨none,0,by rw[h0],by omega,by decide,fun h=>by omega⟩
 ·exact ⟨_,c,rfl,h1,h2,fun _=>⟨g,rfl,hb,(Array.getElem?_eq_some_iff.1 hg).1⟩⟩
theorem GRow.stay (h:GRow K w base v l) (hk:∀ g,v.ownBlock=some g→w'.heap[g]?=w.heap[g]?):GRow K w' base v l:=by
 refine ⟨h.1,?_⟩
 rcases h.2 with hn|⟨g,c,cur,rfl,hbg,hg,rest⟩
 ·exact .inl hn
 ·exact .inr ⟨g,c,cur,rfl,hbg,(hk g rfl).trans hg,rest⟩
theorem GRow.low (h:GRow K w base v l) {g:Nat} (hg:v.ownBlock=some g):base≤g∧g<w.heap.size:=by
 rcases h.2 with ⟨rfl,_⟩|⟨g',c,cur,rfl,hb,hh,_⟩
 ·cases hg
 ·obtain rfl:g'=g:=by simpa [Value.ownBlock] using hg
  exact ⟨hb,(Array.getElem?_eq_some_iff.1 hh).1⟩
theorem GRow.mono {B:Nat} (h:GRow K w base v l) (hB:B≤base):GRow K w B v l:=by
 refine ⟨h.1,?_⟩
 rcases h.2 with hn|⟨g,c,cur,rfl,hbg,rest⟩
 ·exact .inl hn
 ·exact .inr ⟨g,c,cur,rfl,by omega,rest⟩
theorem GRow.rd {A:Option Addr} {m c:Nat} (h:GRow K w base (.slice A m c) l):RdG K w A l.length l:=by
 refine ⟨rfl,fun hn => ?_⟩
 rcases h.2 with ⟨hv,h0⟩|⟨g,c',cur,hv,hb,hg,_⟩
 ·omega
 ·injection hv with hA hn' hc
  subst hA hn' hc
  have hc:=h.cells (g:=g) rfl
  refine ⟨g,0,rfl,(Array.getElem?_eq_some_iff.1 hg).1,fun j u hu => ?_⟩
  have:=hc j u hu
  rwa [add_none] at this
theorem RdG.at {A:Option Addr} {m:Nat} (h:RdG K w A m l) {b o:Nat} (hA:A=some ⟨b,o,none⟩) {i:Nat} {a:α} (ha:l[i]?=some a) {j:Nat} {u:Value} (hu:(K.enc a)[j]?=some u):w.cell? ⟨b,o+(i*K.n+j),none⟩=some u:=by
 have hi:i<l.length:=(List.getElem?_eq_some_iff.1 ha).1
 obtain ⟨b',o',e,_,hc⟩:=h.2 (by have:=h.1;omega)
 rw[hA] at e
 injection e with e
 injection e with e1 e2
 subst e1 e2
 have hj:j<K.n:=by
   have:=(List.getElem?_eq_some_iff.1 hu).1
   rwa [K.len] at this
 exact hc _ _ ((K.all_at l i a ha j hj).trans hu)
theorem GRow.made (w:World) (cs:Array Value) (hc:cs=(K.all l).toArray) (hl:l.length≤maxLen) (hb:base≤w.heap.size):GRow K (w.alloc (.cells cs K.T)) base (.slice (some ⟨w.heap.size,0,none⟩) l.length l.length) l:=by
 subst hc
 refine ⟨K.all_len l,.inr ⟨w.heap.size,l.length,_,rfl,hb,heap_alloc_new w _,Nat.le_refl _,hl,by simp[K.all_len],?_⟩⟩
 rw[List.take_of_length_le]
 simp[K.all_len]
theorem GRow.cut {A:Option Addr} {m c k:Nat} (h:GRow K w base (.slice A m c) l) (hk:k≤l.length):GRow K w base (.slice A k c) (l.take k):=by
 have hl:(l.take k).length=k:=by simp;omega
 unfold GRow at h ⊢
 rw[hl]
 refine ⟨by rw[K.all_len,hl],?_⟩
 rcases h.2 with ⟨hv,h0⟩|⟨g,c',cur,hv,hb,hg,h1,h2,h3,h4⟩
 ·injection hv with hA hm hc
  obtain rfl:k=0:=by omega
  exact .inl ⟨by rw[hA,hc],rfl⟩
 ·injection hv with hA hm hc
  refine .inr ⟨g,c',cur,by rw[hA,hc],hb,hg,by omega,h2,h3,?_⟩
  rw[K.all_take,← h4,List.take_take,Nat.min_eq_left (Nat.mul_le_mul_right _ hk)]
theorem GRow.put {g m c i:Nat} {a:α} {u:Value} (h1:K.n=1) (h:GRow K w base (.slice (some ⟨g,0,none⟩) m c) l) (hi:i<l.length) (hu:K.enc a=[u]):GRow K (w.setCell ⟨g,i,none⟩ u) base (.slice (some ⟨g,0,none⟩) m c) (l.set i a):=by
 have hset:∀ (l:List α) (i:Nat),i<l.length→K.all (l.set i a)=(K.all l).set i u:=by
   intro l
   induction l with
   | nil=>intro i h;simp at h
   | cons b t ih =>
     intro i hi
     obtain ⟨x,hx⟩:∃ x,K.enc b=[x]:=by
       have:=K.len b
       rw[h1] at this
       exact List.length_eq_one_iff.1 this
     cases i with
     | zero=>show K.enc a++K.all t=(K.enc b++K.all t).set 0 u;rw[hu,hx];rfl
     | succ i =>
       show K.enc b++K.all (t.set i a)=(K.enc b++K.all t).set (i+1) u
       rw[hx,ih i (by simpa using hi)];rfl
 unfold GRow at h ⊢
 rw[List.length_set,hset l i hi]
 refine ⟨by rw[List.length_set];exact h.1,?_⟩
 rcases h.2 with ⟨hv,h0⟩|⟨g',c',cur,hv,hb,hg,g1,g2,g3,g4⟩
 ·cases hv
 ·injection hv with hA hm hc
  injection hA with hA
  injection hA with hA
  subst hA
  refine .inr ⟨g,c',cur.setIfInBounds i u,by rw[hm,hc],hb,?_,g1,g2,by simpa using g3,?_⟩
  ·simp[World.setCell,Array.getElem?_modify,hg]
  ·rw[Array.toList_setIfInBounds,List.take_set,g4]
theorem GRow.free {g m c:Nat} (h:GRow K w base (.slice (some ⟨g,0,none⟩) m c) l) (i:Nat):w.frozen? ⟨g,i,none⟩=false:=by
 rcases h.2 with ⟨hv,h0⟩|⟨g',c',cur,hv,hb,hg,_⟩
 ·cases hv
 ·injection hv with hA hm hc
  injection hA with hA
  injection hA with hA
  subst hA
  simp[World.frozen?,hg]
theorem run_row_append (w:World) (base:Nat) (ty:TypeId) (v:Value) (l:List α) (hown:GRow K w base v l) (A:Option Addr) (m c:Nat) (news:List α) (hr:RdG K w A m news)
   (h63:l.length+m≤1000000000) (hbase:base≤w.heap.size) :
   ∃ v' w',(Builtin.append_ #[K.S,K.S] ty #[v,.slice A m c]).run Tryz.prog w=.ok v' w'∧GRow K w' base v' (l++news)∧w.grownBy w' v.ownBlock∧(v'.ownBlock=v.ownBlock∨v'.ownBlock=some w.heap.size):=by
 obtain ⟨i,hi,hz,hsize,hby⟩:=info_parts K.info
 have hl:(l++news).length=l.length+m:=by rw[List.length_append,hr.1]
 cases A with
 | none =>
   have hm:m=0:=by
     by_cases h:0<m
     ·obtain ⟨b,o,e,_⟩:=hr.2 h
      cases e
     ·omega
   subst hm
   obtain rfl:news=[]:=List.eq_nil_of_length_eq_zero hr.1
   refine ⟨v,w,?_,by simpa using hown,⟨rfl,rfl,rfl,Nat.le_refl _,fun _ _ _=>rfl⟩,.inl rfl⟩
   have ht:=K.under
   rcases hown.2 with ⟨rfl,h0⟩|⟨g,cap,cur,rfl,_,_,hnc,_⟩
   ·simp[Builtin.append_,run_underlying ht,sizeOf,typeInfo,hi,Builtin.lenOf,Builtin.firstCells]
   ·simp[Builtin.append_,run_underlying ht,sizeOf,typeInfo,hi,Builtin.lenOf,Builtin.firstCells,hnc,storeCells]
 | some ad =>
   have hc:∀ j u,(K.all news)[j]?=some u→w.cell? (ad.add j)=some u:=by
     intro j u hu
     have hm:0<m:=by
       have h1:=hr.1
       have h2:=(List.getElem?_eq_some_iff.1 hu).1
       rw[K.all_len] at h2
       rcases Nat.eq_zero_or_pos news.length with h|h
       ·rw[h] at h2;simp at h2
       ·omega
     obtain ⟨b,o,e,_,h⟩:=hr.2 hm
     have e':ad=⟨b,o,none⟩:=Option.some.inj e
     rw[e',add_none]
     exact h j u hu
   have hbytes:(l.length+m)*K.bytes≤140737488355328:=by
     have:=Nat.mul_le_mul h63 K.small
     omega
   obtain ⟨v',w',h1,h2,h3,_,h5⟩:=run_append_own_at (P:=Tryz.prog) w base K.S ty K.T i _ K.n K.bytes K.under hi hz hsize hby K.zlen K.pos v l.length (K.all l) hown ad m c (K.all news) (by rw[K.all_len,hr.1]) hc (K.all_one news) (by unfold maxLen;omega) hbytes hbase
   refine ⟨v',w',h1,?_,h3,h5⟩
   unfold GRow
   rw[hl,K.all_append]
   exact h2
theorem row_append {ops:Array Oper} {rest:List Oper} {o:Oper} {a:Act} {Q:Exit→Act→World→Prop} (w:World) (hgd:o.guard=none) (s x:Operand) (ho:o.op=.call { callee:=.builtin .append,args:=#[s,x],argTypes:=#[K.S,K.S] })
   (base:Nat) (v:Value) (l:List α) (hs:a.eval s=v) (hown:GRow K w base v l) (A:Option Addr) (m c:Nat) (news:List α) (hx:a.eval x=.slice A m c) (hr:RdG K w A m news)
   (h63:l.length+m≤1000000000) (hbase:base≤w.heap.size)
   (h:∀ v' w',GRow K w' base v' (l++news)→w.grownBy w' v.ownBlock→(v'.ownBlock=v.ownBlock∨v'.ownBlock=some w.heap.size)→wpList Tryz.prog ops Q rest (a.put o.dst v') w'):wpList Tryz.prog ops Q (o :: rest) a w :=
 wpList_plain hgd fun _ hK=>by
   obtain ⟨v',w',hrun,h2,h3,h5⟩:=run_row_append w base o.type v l hown A m c news hr h63 hbase
   unfold Oper.wp execOp
   simp only [ho,resolve,invoke,builtin,Sem.run_bind,Sem.run_pure,Result.andThen_ok,List.map_toArray,List.map_cons,List.map_nil,hs,hx,hrun]
   exact hK _ _ (h v' w' h2 h3 h5)
end
end
section
def takeAll:Nst→List Tok→Nst×List Evt×Int
 | n,[]=>(n,[],0)
 | n,t :: ts=>if (takeN n t).2.2≠0 then takeN n t else ((takeAll (takeN n t).1 ts).1,(takeN n t).2.1++(takeAll (takeN n t).1 ts).2.1,(takeAll (takeN n t).1 ts).2.2)
def byteP (st:LSt) (n:Nst) (k:Nat) (c:UInt8):List Evt×Int×LSt×Nst :=
 ((takeAll n (stepL st k c).1).2.1,if (takeAll n (stepL st k c).1).2.2≠0 then (takeAll n (stepL st k c).1).2.2 else if (stepL st k c).2.1=8∧(takeAll n (stepL st k c).1).1.may.isNothing=true then 9 else (stepL st k c).2.1,
   (stepL st k c).2.2,(takeAll n (stepL st k c).1).1)
def May.isBad:May→Bool
 | .broken=>true
 | _=>false
def closeN (n:Nst):Int:=if n.may.isBad then 14 else if n.may.isNothing then 1 else if n.came then 10 else 11
def endP (st:LSt)(n:Nst)(k:Nat):List Evt×Int:=((takeAll n (closeL st k).1).2.1,if (closeL st k).2≠1 then (closeL st k).2 else closeN (takeAll n (closeL st k).1).1)
def goP:LSt→Nst→List UInt8→Nat→List Evt×Int×Nat
 | st,n,[],k=>((endP st n k).1,(endP st n k).2,k)
 | st, n,c :: t,k=>if (byteP st n k c).2.1≠0 then ((byteP st n k c).1,(byteP st n k c).2.1,k) else
     ((byteP st n k c).1++(goP (byteP st n k c).2.2.1 (byteP st n k c).2.2.2 t (k+1)).1,(goP (byteP st n k c).2.2.1 (byteP st n k c).2.2.2 t (k+1)).2)
def parseP (l:List UInt8)(d:Int):List Evt×Int×Nat:=goP .out (newN d) l 0
def FK (f:Int):Prop:=f≠0∧f≠1∧f≠10∧f≠11
def EK (f:Int):Prop:=f=1∨f=10∨f=11
def Fit (st:LSt) (n:Nst):Prop:=n.may.isBad=false∧match st with
 | .out=>n.begun=0
 | .dead=>False
 | _=>n.begun≠0
theorem takeO_fault (n:Nst) (t:Tok) (hx:n.may.isBad=false):((takeO n t).2.2≠0→FK (takeO n t).2.2)∧((takeO n t).2.2=0→(takeO n t).1.may.isBad=false∧(t.begun=false→(takeO n t).1.begun=n.begun)∧(t.begun=true→t.kind≠0→(takeO n t).1.begun≠0)):=by
 obtain ⟨most,op,may,begun,came⟩:=n
 obtain ⟨kd,bg,fr,to,tx⟩:=t
 have h8:FK 8:=⟨by decide,by decide,by decide,by decide⟩
 have h9:FK 9:=⟨by decide,by decide,by decide,by decide⟩
 have h12:FK 12:=⟨by decide,by decide,by decide,by decide⟩
 cases may <;> first
   | (cases hx;done)
   | (cases op <;> cases bg<;>unfold takeO<;>simp only []<;>(repeat' split)<;>first
       | contradiction
       | exact ⟨fun _=>h8,fun h=>absurd h (by show (8:Int)≠0;decide)⟩
       | exact ⟨fun _=>h9,fun h=>absurd h (by show (9:Int)≠0;decide)⟩
       | exact ⟨fun _=>h12,fun h=>absurd h (by show (12:Int)≠0;decide)⟩
       | (refine ⟨fun h=>absurd rfl h,fun _=>⟨?_,?_,?_⟩⟩
          ·first
             | rfl
             | (split<;>rfl)
             | (simp only [endedN];split<;>rfl)
          ·first
             | (intro h;cases h;done)
             | (intro _;rfl)
          ·first
             | (intro h;cases h;done)
             | (intro _ _;show (8:Int)≠0;decide)
             | (intro _ h;exact h)))
theorem takeN_end (n:Nst) (t:Tok) (hx:n.may.isBad=false) (hb:n.begun≠0):(takeN n t).2.2=0∧(takeN n t).1.may.isBad=false∧(takeN n t).1.begun=0:=by
 unfold takeN
 rw[if_neg hb]
 split
 ·exact ⟨rfl,rfl,rfl⟩
 ·refine ⟨rfl,?_,rfl⟩
  simp only [endedN]
  split<;>rfl
theorem out_fit (n:Nst) (k:Nat) (c:UInt8) (hx:n.may.isBad=false) (hb:n.begun=0) (f:Int) (hf:f=if (takeAll n (outL k c).1).2.2≠0 then (takeAll n (outL k c).1).2.2 else if (outL k c).2.1=8∧(takeAll n (outL k c).1).1.may.isNothing=true then 9 else (outL k c).2.1) :
   (f≠0→FK f)∧(f=0→Fit (outL k c).2.2 (takeAll n (outL k c).1).1):=by
 have one:∀ (t:Tok) (st:LSt),f=(if (takeAll n [t]).2.2≠0 then (takeAll n [t]).2.2 else if (0:Int)=8∧(takeAll n [t]).1.may.isNothing=true then 9 else 0)→(∀ m:Nst,m.may.isBad=false→(t.begun=false→m.begun=0)→(t.begun=true→m.begun≠0)→Fit st m)→t.kind≠0 →
     (f≠0→FK f)∧(f=0→Fit st (takeAll n [t]).1):=by
   intro t st hf hst hk
   have e:takeN n t=takeO n t:=by unfold takeN;rw[if_pos hb]
   obtain ⟨h1,h2⟩:=takeO_fault n t hx
   by_cases h0:(takeO n t).2.2=0
   ·have ea:takeAll n [t]=((takeO n t).1,(takeO n t).2.1++[],0):=by
      show (if (takeN n t).2.2≠0 then takeN n t else ((takeN n t).1,(takeN n t).2.1++[],0))=_
      rw[e,if_neg (fun h=>h h0)]
    rw[ea] at hf ⊢
    have hf0:f=0:=by rw[hf];simp
    refine ⟨fun h=>absurd hf0 h,fun _ => ?_⟩
    obtain ⟨g1,g2,g3⟩:=h2 h0
    exact hst _ g1 (fun h=>(g2 h).trans hb) (fun h=>g3 h hk)
   ·have ea:takeAll n [t]=takeO n t:=by
      show (if (takeN n t).2.2≠0 then takeN n t else _)=_
      rw[e,if_pos h0]
    rw[ea,if_pos h0] at hf
    refine ⟨fun _=>by rw[hf];exact h1 h0,fun h=>absurd (hf.symm.trans h) h0⟩
 unfold outL at hf ⊢
 split at hf
 ·rename_i h1
  rw[if_pos h1]
  have:f=0:=by rw[hf];simp[takeAll]
  exact ⟨fun h=>absurd this h,fun _=>⟨hx,hb⟩⟩
 ·rename_i h1
  rw[if_neg h1]
  split at hf
  ·rename_i h2
   rw[if_pos h2]
   have : f=9∨f=8:=by
     rw[hf]
     simp only [takeAll]
     split
     ·rename_i h;exact absurd rfl h
     ·split
      ·exact .inl rfl
      ·exact .inr rfl
   rcases this with h|h<;>rw[h]<;>exact ⟨fun _=>⟨by decide,by decide,by decide,by decide⟩,fun h=>absurd h (by decide)⟩
  ·rename_i h2
   rw[if_neg h2]
   split at hf
   ·rename_i h3
    rw[if_pos h3]
    exact one _ .out hf (fun m g1 g2 _=>⟨g1,g2 rfl⟩) h2
   ·rename_i h3
    rw[if_neg h3]
    split at hf
    ·rename_i h4
     rw[if_pos h4]
     exact one _ _ hf (fun m g1 _ g3=>⟨g1,g3 rfl⟩) (by show (8:Int)≠0;decide)
    ·rename_i h4
     rw[if_neg h4]
     split at hf
     ·rename_i h5
      rw[if_pos h5]
      exact one _ _ hf (fun m g1 _ g3=>⟨g1,g3 rfl⟩) (by show (9:Int)≠0;decide)
     ·rename_i h5
      rw[if_neg h5]
      exact one _ _ hf (fun m g1 _ g3=>⟨g1,g3 rfl⟩) (by show (10:Int)≠0;decide)
theorem faultQ_fk (q:QSt) (c:UInt8):FK (faultQ q c):=by
 have h:∀ k:Int,k=2∨k=3∨k=4∨k=7∨k=14→FK k:=fun k hk=>by
   rcases hk with rfl|rfl|rfl|rfl|rfl<;>exact ⟨by decide,by decide,by decide,by decide⟩
 apply h
 cases q<;>unfold faultQ<;>(repeat' split)<;>simp
theorem byteP_fit (st:LSt) (n:Nst) (k:Nat) (c:UInt8) (h:Fit st n):((byteP st n k c).2.1≠0→FK (byteP st n k c).2.1)∧((byteP st n k c).2.1=0→Fit (byteP st n k c).2.2.1 (byteP st n k c).2.2.2):=by
 obtain ⟨hx,h⟩:=h
 have f5:FK 5:=⟨by decide,by decide,by decide,by decide⟩
 have f6:FK 6:=⟨by decide,by decide,by decide,by decide⟩
 have nine:∀ f:Int,FK f → ∀ z:Bool,FK (if f=8∧z=true then 9 else f):=fun f hf z=>by
   split
   ·exact ⟨by decide,by decide,by decide,by decide⟩
   ·exact hf
 -- no tokens, and a fault or none
 have none:∀ (f:Int) (st':LSt),stepL st k c=([],f,st')→(f=0→Fit st' n)→(f≠0→FK f)→((byteP st n k c).2.1≠0→FK (byteP st n k c).2.1)∧((byteP st n k c).2.1=0→Fit (byteP st n k c).2.2.1 (byteP st n k c).2.2.2):=by
   intro f st' e h1 h2
   have e1:(byteP st n k c).2.1=if f=8∧n.may.isNothing=true then 9 else f:=by
     unfold byteP
     rw[e]
     show (if (0:Int)≠0 then (0:Int) else if f=8∧n.may.isNothing=true then 9 else f)=_
     rw[if_neg (by decide)]
   have e2:(byteP st n k c).2.2.1=st':=by unfold byteP;rw[e]
   have e3:(byteP st n k c).2.2.2=n:=by unfold byteP;rw[e];rfl
   rw[e1,e2,e3]
   by_cases h0:f=0
   ·subst h0
    rw[if_neg (by rintro ⟨h,_⟩;cases h)]
    exact ⟨fun h=>absurd rfl h,fun _=>h1 rfl⟩
   ·exact ⟨fun _=>nine f (h2 h0) _,fun h=>absurd h (nine f (h2 h0) _).1⟩
 -- one token that ends
 have one:∀ (t:Tok) (st':LSt),stepL st k c=([t],0,st')→n.begun≠0→(∀ m:Nst,m.may.isBad=false→m.begun=0→Fit st' m)→((byteP st n k c).2.1≠0→FK (byteP st n k c).2.1)∧((byteP st n k c).2.1=0→Fit (byteP st n k c).2.2.1 (byteP st n k c).2.2.2):=by
   intro t st' e hb h1
   obtain ⟨g1,g2,g3⟩:=takeN_end n t hx hb
   have ea:takeAll n [t]=((takeN n t).1,(takeN n t).2.1++[],0):=by
     show (if (takeN n t).2.2≠0 then takeN n t else ((takeN n t).1,(takeN n t).2.1++[],0))=_
     rw[if_neg (fun h=>h g1)]
   have e1:(byteP st n k c).2.1=0:=by
     unfold byteP
     rw[e,ea]
     simp
   have e2:(byteP st n k c).2.2.1=st':=by unfold byteP;rw[e]
   have e3:(byteP st n k c).2.2.2=(takeN n t).1:=by unfold byteP;rw[e,ea]
   rw[e1,e2,e3]
   exact ⟨fun h=>absurd rfl h,fun _=>h1 _ g2 g3⟩
 cases st with
 | dead=>exact h.elim
 | out=>exact out_fit n k c hx h _ rfl
 | num a f p =>
   have h:n.begun≠0:=h
   by_cases h1:nxI a c.toNat≠0
   ·exact none 0 (.num (nxI a c.toNat) f (p++[c])) (by show (if _ then _ else _)=_;rw[if_pos h1]) (fun _=>⟨hx,h⟩) (fun h=>absurd rfl h)
   ·by_cases h2:(whI a && !stickI c.toNat)=true
    ·obtain ⟨g1,g2,g3⟩:=takeN_end n ⟨9,false,f,k,p⟩ hx h
     have e:stepL (.num a f p) k c=(⟨9,false,f,k,p⟩ :: (outL k c).1,(outL k c).2.1,(outL k c).2.2):=by show (if _ then _ else if _ then _ else _)=_;rw[if_neg h1,if_pos h2]
     have ea:takeAll n (⟨9,false,f,k,p⟩ :: (outL k c).1)=((takeAll (takeN n ⟨9,false,f,k,p⟩).1 (outL k c).1).1,(takeN n ⟨9,false,f,k,p⟩).2.1++(takeAll (takeN n ⟨9,false,f,k,p⟩).1 (outL k c).1).2.1,(takeAll (takeN n ⟨9,false,f,k,p⟩).1 (outL k c).1).2.2):=by
       show (if _ then _ else _)=_
       rw[if_neg (fun h=>h g1)]
     have:=out_fit (takeN n ⟨9,false,f,k,p⟩).1 k c g2 g3 _ rfl
     unfold byteP
     rw[e]
     simp only [ea]
     exact this
    ·exact none 5 .dead (by show (if _ then _ else if _ then _ else _)=_;rw[if_neg h1,if_neg h2]) (fun h=>absurd h (by decide)) (fun _=>f5)
 | word f p =>
   have h:n.begun≠0:=h
   by_cases h1:refL (p++[c])=2
   ·exact none 6 .dead (by show (if _ then _ else if _ then _ else _)=_;rw[if_pos h1]) (fun h=>absurd h (by decide)) (fun _=>f6)
   ·by_cases h2:refL (p++[c])=1
    ·exact one ⟨10,false,f,k+1,p++[c]⟩ .out (by show (if _ then _ else if _ then _ else _)=_;rw[if_neg h1,if_pos h2]) h (fun m g1 g2=>⟨g1,g2⟩)
    ·exact none 0 (.word f (p++[c])) (by show (if _ then _ else if _ then _ else _)=_;rw[if_neg h1,if_neg h2]) (fun _=>⟨hx,h⟩) (fun h=>absurd rfl h)
 | str q f acc =>
   have h:n.begun≠0:=h
   have e:stepL (.str q f acc) k c=strL q f acc k c (stepQ q c):=rfl
   cases hs:stepQ q c with
   | none =>
     rw[hs] at e
     exact none _ .dead e (fun h=>absurd h (faultQ_fk q c).1) (fun _=>faultQ_fk q c)
   | some x =>
     obtain ⟨q',y⟩:=x
     rw[hs] at e
     by_cases hd:q'=.done
     ·subst hd
      exact one _ .out e h (fun m g1 g2=>⟨g1,g2⟩)
     ·have e':strL q f acc k c (some (q',y))=([],0,.str q' f (acc++y)):=by cases q'<;>first|rfl|exact absurd rfl hd
      rw[e'] at e
      exact none 0 _ e (fun _=>⟨hx,h⟩) (fun h=>absurd rfl h)
theorem endP_kind (st:LSt) (n:Nst) (k:Nat) (h:Fit st n):EK (endP st n k).2:=by
 obtain ⟨hx,h⟩:=h
 have hc:∀ m:Nst,m.may.isBad=false→EK (closeN m):=fun m hm=>by
   unfold closeN
   rw[hm]
   simp only [Bool.false_eq_true,if_false]
   split
   ·exact .inl rfl
   ·split
    ·exact .inr (.inl rfl)
    ·exact .inr (.inr rfl)
 cases st with
 | dead=>exact h.elim
 | out=>exact hc n hx
 | num a f p =>
   have h:n.begun≠0:=h
   by_cases h2:whI a=true
   ·obtain ⟨g1,g2,g3⟩:=takeN_end n ⟨9,false,f,k,p⟩ hx h
    have e:closeL (.num a f p) k=([⟨9,false,f,k,p⟩],1):=by show (if _ then _ else _)=_;rw[if_pos h2]
    have ea:takeAll n [⟨9,false,f,k,p⟩]=((takeN n ⟨9,false,f,k,p⟩).1,(takeN n ⟨9,false,f,k,p⟩).2.1++[],0):=by
      show (if _ then _ else _)=_
      rw[if_neg (fun h=>h g1)]
      rfl
    unfold endP
    rw[e]
    simp only [ea]
    exact hc _ g2
   ·have e:closeL (.num a f p) k=([],10):=by show (if _ then _ else _)=_;rw[if_neg h2]
    unfold endP
    rw[e]
    exact .inr (.inl rfl)
 | word f p=>exact .inr (.inl rfl)
 | str q f acc=>exact .inr (.inl rfl)
theorem fit_start (d:Int):Fit .out (newN d):=⟨rfl,rfl⟩
end
section
inductive Tree where
 | mk (kd:Int) (fr to:Nat) (tx:List UInt8) (items:List Tree) (names:List (List UInt8))
def Tree.kd:Tree→Int
 | .mk kd _ _ _ _ _=>kd
def Tree.fr:Tree→Nat
 | .mk _ fr _ _ _ _=>fr
def Tree.to:Tree→Nat
 | .mk _ _ to _ _ _=>to
def Tree.tx:Tree→List UInt8
 | .mk _ _ _ tx _ _=>tx
def Tree.items:Tree→List Tree
 | .mk _ _ _ _ items _=>items
def Tree.names:Tree→List (List UInt8)
 | .mk _ _ _ _ _ names=>names
def addT (t:Tree) (s:Stp):Tree→Tree
 | .mk kd fr to tx items names=>.mk kd fr to tx (items++[t]) (if s.named then names++[s.name] else names)
structure Bld where
 op:List (Tree×Stp)
 root:Option Tree
def bldE (b:Bld) (e:Evt):Bld :=
 if e.kind=1 then { b with op:=(.mk e.value e.fr 0 [] [] [],e.step) :: b.op }
 else match b.op with
   | []=>b
   | [(.mk _ fr _ _ items names,s)]=>⟨[],some (.mk e.value fr e.to e.text items names)⟩
   | (.mk _ fr _ _ items names,s) :: (p,ps) :: r => { b with op:=(addT (.mk e.value fr e.to e.text items names) s p,ps) :: r }
def bldA (b:Bld)(es:List Evt):Bld:=es.foldl bldE b
def treeE (es:List Evt):Tree:=(bldA ⟨[],none⟩ es).root.getD (.mk 0 0 0 [] [] [])
def treeP (l:List UInt8)(d:Int):Tree:=treeE (parseP l d).1
mutual
def sameT:Tree→Tree→Bool
 | .mk k1 _ _ t1 i1 n1,.mk k2 _ _ t2 i2 n2=>decide (k1=k2)&&decide (t1=t2)&&decide (n1=n2)&&sameL i1 i2
def sameL:List Tree→List Tree→Bool
 | [],[]=>true
 | a :: r,b :: s=>sameT a b&&sameL r s
 | _,_=>false
end
end
section
def runC:LSt→Nst→List UInt8→Nat→Option (LSt×Nst×List Evt)
 | st,n,[],k=>some (st,n,[])
 | st,n,c :: t,k=>if (byteP st n k c).2.1≠0 then none else (runC (byteP st n k c).2.2.1 (byteP st n k c).2.2.2 t (k+1)).map fun r=>(r.1,r.2.1,(byteP st n k c).1++r.2.2)
theorem runC_go (l:List UInt8):∀ (st:LSt) (n:Nst) (k:Nat) (st':LSt) (n':Nst) (es:List Evt),runC st n l k=some (st',n',es)→goP st n l k=(es++(endP st' n' (k+l.length)).1,(endP st' n' (k+l.length)).2,k+l.length):=by
 induction l with
 | nil=>intro st n k st' n' es h;cases h;rfl
 | cons c t ih =>
   intro st n k st' n' es h
   by_cases hf:(byteP st n k c).2.1≠0
   ·have:runC st n (c :: t) k=none:=by show (if _ then _ else _)=_;rw[if_pos hf]
    rw[this] at h;cases h
   ·have e1:runC st n (c :: t) k=(runC (byteP st n k c).2.2.1 (byteP st n k c).2.2.2 t (k+1)).map fun r=>(r.1,r.2.1,(byteP st n k c).1++r.2.2):=by show (if _ then _ else _)=_;rw[if_neg hf]
    have e2:goP st n (c :: t) k=((byteP st n k c).1++(goP (byteP st n k c).2.2.1 (byteP st n k c).2.2.2 t (k+1)).1,(goP (byteP st n k c).2.2.1 (byteP st n k c).2.2.2 t (k+1)).2):=by show (if _ then _ else _)=_;rw[if_neg hf]
    rw[e1] at h
    cases hr:runC (byteP st n k c).2.2.1 (byteP st n k c).2.2.2 t (k+1) with
    | none=>rw[hr] at h;cases h
    | some r =>
      obtain ⟨a,b,d⟩:=r
      rw[hr] at h
      cases h
      have:=ih _ _ (k+1) _ _ _ hr
      rw[e2,this]
      have hl:k+1+t.length=k+(c :: t).length:=by simp;omega
      rw[hl]
      simp
end
section
structure JN (n:Nst):Prop where
 beg:n.begun≠0→n.may.val=true∨n.may.nam=true
 noth:n.may.isNothing=true→n.op=[]
 bad:n.may.isBad=false
def cnt (n:Nst):Nat:=n.op.length+if n.begun≠0∧n.may.val=true then 1 else 0
theorem more_len (op:List Opn):(moreO op).length=op.length:=by cases op<;>rfl
theorem name_len (s:List UInt8)(op:List Opn):(nameO s op).length=op.length:=by cases op<;>rfl
theorem ended_J (most:Nat) (op:List Opn) (may:May) (b:Int) (ca:Bool):JN ({ endedN (⟨most,op,may,b,ca⟩:Nst) with begun:=0,came:=true }:Nst)∧cnt ({ endedN (⟨most,op,may,b,ca⟩:Nst) with begun:=0,came:=true }:Nst)=op.length ∧
   (op=[]→({ endedN (⟨most,op,may,b,ca⟩:Nst) with begun:=0,came:=true }:Nst).may.isNothing=true):=by
 refine ⟨⟨fun h=>absurd rfl h,?_,?_⟩,?_,?_⟩
 ·cases op with
  | nil=>intro _;rfl
  | cons o r=>intro h;cases h
 ·cases op<;>rfl
 ·unfold cnt endedN
  simp[more_len]
 ·rintro rfl
  rfl
structure Does (n n':Nst) (t:Tok) (es:List Evt):Prop where
 j:JN n'
 most:n'.most=n.most
 evs:(es=[]∧cnt n'=cnt n∧n'.may.isNothing=false)∨(∃ v s,es=[⟨1,v,t.fr,0,s,[]⟩]∧cnt n'=cnt n+1∧n.begun=0∧n.may.val=true∧n'.may.isNothing=false)∨(∃ v f s x,es=[⟨2,v,f,t.to,s,x⟩]∧cnt n'+1=cnt n∧n'.begun=0∧(n'.op=[]→n'.may.isNothing=true))
 fin:n.begun≠0→n'.begun=0∧n'.may.val=false
 same:n'.begun≠0→n'.op=n.op
theorem tok_does (n:Nst) (t:Tok) (hJ:JN n) (hk:t.begun=true→t.kind≠0) (hf:(takeN n t).2.2=0):Does n (takeN n t).1 t (takeN n t).2.1:=by
 obtain ⟨most,op,may,begun,came⟩:=n
 obtain ⟨kd,bg,fr,to,tx⟩:=t
 by_cases hb:begun=0
 ·subst hb
  have e:takeN ⟨most,op,may,0,came⟩ ⟨kd,bg,fr,to,tx⟩=takeO ⟨most,op,may,0,came⟩ ⟨kd,bg,fr,to,tx⟩:=by unfold takeN;rw[if_pos rfl]
  rw[e] at hf ⊢
  have cl:∀ (o:Opn) (r:List Opn) (m:May),(takeO ⟨most,op,may,0,came⟩ ⟨kd,bg,fr,to,tx⟩)=({ endedN (⟨most,r,m,0,came⟩:Nst) with came:=true },[⟨2,o.kd,o.fr,to,o.step,[]⟩],0)→op=o :: r→Does ⟨most,op,may,0,came⟩ (takeO ⟨most,op,may,0,came⟩ ⟨kd,bg,fr,to,tx⟩).1 ⟨kd,bg,fr,to,tx⟩ (takeO ⟨most,op,may,0,came⟩ ⟨kd,bg,fr,to,tx⟩).2.1:=by
    intro o r m h1 h2
    rw[h1,h2]
    obtain ⟨g1,g2,g3⟩:=ended_J most r m 0 came
    refine ⟨g1,rfl,.inr (.inr ⟨_,_,_,_,rfl,?_,rfl,fun h=>g3 ?_⟩),fun h=>absurd rfl h,fun h=>absurd rfl h⟩
    ·refine (congrArg (· + 1) g2).trans ?_
     unfold cnt
     simp
    ·have h:moreO r=[]:=h
     cases r with
     | nil=>rfl
     | cons q r=>cases h
  cases may<;>first
    | (have:=hJ.bad;cases this;done)
    | (exact absurd hf (by unfold takeO;decide))
    | skip
  all_goals
    unfold takeO at hf cl ⊢
    simp only [] at hf cl ⊢
    revert hf cl
    (repeat' split)<;>intro hf cl<;>first
      | exact absurd hf (by show (8:Int)≠0;decide)
      | exact absurd hf (by show (12:Int)≠0;decide)
      | exact absurd hf (by show (9:Int)≠0;decide)
      | exact cl _ _ _ rfl rfl
      | (rename_i h1 h2;exact absurd h2.2 (by decide))
      | (rename_i h1;exact absurd h1 (by decide))
      | (exfalso;have hh:May.val _=true:=(‹(kd=2∨kd=4)∧_›).2;cases hh;done)
      | (refine ⟨⟨?_,?_,rfl⟩,rfl,.inr (.inl ⟨_,_,rfl,?_,rfl,rfl,(by first|rfl|(split<;>rfl))⟩),fun h=>absurd rfl h,?_⟩
         ·intro _;exact .inl rfl
         ·intro h;cases h
         ·unfold cnt;simp[May.val, *];done
         ·intro _;rfl)
      | (refine ⟨⟨?_,?_,?_⟩,rfl,.inr (.inl ⟨_,_,rfl,?_,rfl,rfl,(by first|rfl|(split<;>rfl))⟩),fun h=>absurd rfl h,?_⟩
         ·intro h;exact absurd rfl h
         ·first
            | (intro h;cases h;done)
            | (split<;>intro h<;>cases h)
         ·first
            | rfl
            | (split<;>rfl)
         ·unfold cnt;simp
         ·intro h;exact absurd rfl h)
      | (refine ⟨⟨?_,?_,rfl⟩,rfl,.inl ⟨rfl,?_,(by first|rfl|(split<;>rfl))⟩,fun h=>absurd rfl h,?_⟩
         ·intro _;exact .inr rfl
         ·intro h;cases h
         ·unfold cnt;simp[May.val]
         ·intro _;rfl)
      | (refine ⟨⟨?_,?_,?_⟩,rfl,.inl ⟨rfl,?_,(by first|rfl|(split<;>rfl))⟩,fun h=>absurd rfl h,?_⟩
         ·intro h;exact absurd rfl h
         ·first
            | (intro h;cases h;done)
            | (split<;>intro h<;>cases h)
         ·first
            | rfl
            | (split<;>rfl)
         ·unfold cnt;simp
         ·intro h;exact absurd rfl h)
 ·have e1:takeN ⟨most,op,may,begun,came⟩ ⟨kd,bg,fr,to,tx⟩=if may.nam=true then (⟨most,nameO tx op,.colon,0,came⟩,[],0) else ({ endedN (⟨most,op,may,begun,came⟩:Nst) with begun:=0 },[⟨2,scalarK ⟨kd,bg,fr,to,tx⟩,fr,to,stepO op,tx⟩],0):=by
    unfold takeN
    rw[if_neg hb]
  rw[e1] at hf ⊢
  by_cases hn:may.nam=true
  ·rw[if_pos hn]
   have hv:may.val=false:=by cases may<;>first|rfl|cases hn
   refine ⟨⟨fun h=>absurd rfl h,fun h=>(by cases h),rfl⟩,rfl,.inl ⟨rfl,?_,rfl⟩,fun _=>⟨rfl,rfl⟩,fun h=>absurd rfl h⟩
   unfold cnt
   simp[name_len,hv]
  ·rw [if_neg hn]
   have hv:may.val=true:=(hJ.beg hb).resolve_right hn
   refine ⟨⟨fun h=>absurd rfl h,?_,?_⟩,rfl,.inr (.inr ⟨_,_,_,_,rfl,?_,rfl,?_⟩),fun _=>⟨rfl,?_⟩,fun h=>absurd rfl h⟩
   ·cases op with
    | nil=>intro _;rfl
    | cons o r=>intro h;cases h
   ·cases op<;>rfl
   ·unfold cnt endedN
    simp[more_len,hv,hb]
   ·cases op with
    | nil=>intro _;rfl
    | cons o r=>intro h;cases h
   ·cases op<;>rfl
end
section
theorem bldA_app (b:Bld)(x y:List Evt):bldA b (x++y)=bldA (bldA b x) y:=by unfold bldA;rw[List.foldl_append]
theorem val_nam {m:May}(h:m.val=true):¬ m.nam=true:=by cases m<;>first|(cases h;done)|decide
theorem val_end (n:Nst) (t:Tok) (hb:n.begun≠0) (hv:n.may.val=true):takeN n t=({ endedN n with begun:=0 },[⟨2,scalarK t,t.fr,t.to,stepO n.op,t.text⟩],0):=by
 unfold takeN
 rw[if_neg hb,if_neg (val_nam hv)]
def finT (e:Evt):Tree→Tree
 | .mk _ fr _ _ items names=>.mk e.value fr e.to e.text items names
def clX (y:Tree) (s:Stp) (r:List (Tree×Stp)) (t:Tree) (e:Evt):List (Tree×Stp)×Tree:=match r with
 | []=>([],addT (finT e y) s t)
 | (p,ps) :: r=>((addT (finT e y) s p,ps) :: r,t)
theorem bldE_close (y:Tree) (s:Stp) (r:List (Tree×Stp)) (t:Tree) (s0:Stp) (P:List (Tree×Stp)) (rt:Option Tree) (e:Evt) (h:¬ e.kind=1) :
   bldE ⟨(y,s) :: (r++(t,s0) :: P),rt⟩ e=⟨(clX y s r t e).1++((clX y s r t e).2,s0) :: P,rt⟩:=by
 obtain ⟨kd,fr,to,tx,items,names⟩:=y
 unfold bldE
 rw[if_neg h]
 cases r with
 | nil=>rfl
 | cons p r=>rfl
theorem bldE_last (t:Tree) (s:Stp) (rt:Option Tree) (e:Evt) (h:¬ e.kind=1):bldE ⟨[(t,s)],rt⟩ e=⟨[],some (finT e t)⟩:=by
 obtain ⟨kd,fr,to,tx,items,names⟩:=t
 unfold bldE
 rw[if_neg h]
 rfl
theorem bldE_open (o:List (Tree×Stp)) (rt:Option Tree) (e:Evt) (h:e.kind=1):bldE ⟨o,rt⟩ e=⟨(.mk e.value e.fr 0 [] [] [],e.step) :: o,rt⟩:=by
 unfold bldE
 rw[if_pos h]
end
section
theorem addT_items (t:Tree)(s:Stp)(p:Tree):(addT t s p).items=p.items++[t]:=by cases p;rfl
end
section
theorem byte_ok (st:LSt) (n:Nst) (k:Nat) (c:UInt8) (hf:(byteP st n k c).2.1=0):(takeAll n (stepL st k c).1).2.2=0∧(stepL st k c).2.1=0:=by
 have hf:(if (takeAll n (stepL st k c).1).2.2≠0 then (takeAll n (stepL st k c).1).2.2 else if (stepL st k c).2.1=8∧(takeAll n (stepL st k c).1).1.may.isNothing=true then 9 else (stepL st k c).2.1)=0:=hf
 by_cases h:(takeAll n (stepL st k c).1).2.2≠0
 ·rw[if_pos h] at hf;exact absurd hf h
 ·rw[if_neg h] at hf
  refine ⟨Decidable.not_not.1 h,?_⟩
  split at hf
  ·cases hf
  ·exact hf
theorem byte_ok' (st:LSt) (n:Nst) (k:Nat) (c:UInt8) (h1:(takeAll n (stepL st k c).1).2.2=0) (h2:(stepL st k c).2.1=0):(byteP st n k c).2.1=0:=by
 show (if (takeAll n (stepL st k c).1).2.2≠0 then (takeAll n (stepL st k c).1).2.2 else if (stepL st k c).2.1=8∧(takeAll n (stepL st k c).1).1.may.isNothing=true then 9 else (stepL st k c).2.1)=0
 rw[if_neg (fun h=>h h1),h2,if_neg (fun h=>by cases h.1)]
theorem close_nothing (n:Nst) (h:closeN n=1):n.may.isNothing=true:=by
 unfold closeN at h
 split at h
 ·cases h
 ·split at h
  ·assumption
  ·split at h<;>cases h
theorem takeAll_ok {n:Nst} {t:Tok} {ts:List Tok} (h:(takeAll n (t :: ts)).2.2=0):(takeN n t).2.2=0∧(takeAll (takeN n t).1 ts).2.2=0∧(takeAll n (t :: ts)).1=(takeAll (takeN n t).1 ts).1∧(takeAll n (t :: ts)).2.1=(takeN n t).2.1++(takeAll (takeN n t).1 ts).2.1:=by
 have e:takeAll n (t :: ts)=if (takeN n t).2.2≠0 then takeN n t else ((takeAll (takeN n t).1 ts).1,(takeN n t).2.1++(takeAll (takeN n t).1 ts).2.1,(takeAll (takeN n t).1 ts).2.2):=rfl
 by_cases hf:(takeN n t).2.2≠0
 ·rw[e,if_pos hf] at h;exact absurd h hf
 ·rw[e,if_neg hf] at h ⊢
  exact ⟨Decidable.not_not.1 hf,h,rfl,rfl⟩
end
section
open Go.RowKit
theorem Rd.same {w w':World} {B:Nat} {A:Option Addr} {n:Nat} {xs:List Value} (h:Rd w B A n xs) (hh:w'.heap=w.heap):Rd w' B A n xs :=
 ⟨h.1,fun hn=>by
   obtain ⟨ad,e,hlt,hc⟩:=h.2 hn
   exact ⟨ad,e,hlt,fun j u hu=>by rw[World.cell?_of_block (w:=w) (by rw[hh])];exact hc j u hu⟩⟩
end
section
open Go.RowKit
structure V6 where
 kd:Int
 fr:Nat
 to:Nat
 tx:List UInt8
 A:Option Addr
 n:Nat
 c:Nat
 B:Option Addr
 m:Nat
 d:Nat
def v6Cells (x:V6):List Value:=[.int .i64 x.kd,.int .i64 x.fr,.int .i64 x.to,.string ⟨x.tx.toArray⟩,.slice x.A x.n x.c,.slice x.B x.m x.d]
def valK:RowK V6 where
 T:=27
 S:=24
 n:=6
 bytes:=88
 zero:=.agg #[.int .i64 0,.int .i64 0,.int .i64 0,.string ⟨#[]⟩,.slice none 0 0,.slice none 0 0]
 enc:=v6Cells
 pos:=by decide
 len:=fun _=>rfl
 one:=fun x u h=>by
   simp[v6Cells] at h
   rcases h with rfl|rfl|rfl|rfl|rfl|rfl<;>rfl
 under:=Tryz.underlying24
 info:=by kernel_rfl
 zlen:=rfl
 small:=by decide
def namK:RowK (List UInt8) where
 T:=9
 S:=25
 n:=1
 bytes:=16
 zero:=.string ⟨#[]⟩
 enc:=fun s=>[.string ⟨s.toArray⟩]
 pos:=by decide
 len:=fun _=>rfl
 one:=fun s u h=>by simp at h;subst h;rfl
 under:=Tryz.underlying25
 info:=by kernel_rfl
 zlen:=rfl
 small:=by decide
theorem RdG.below {α:Type} {K:RowK α} {w w':World} {A:Option Addr} {m:Nat} {l:List α} (h:RdG K w A m l) (hb:Below w.heap.size w w'):RdG K w' A m l :=
 ⟨h.1,fun hm=>by
   obtain ⟨b,o,e,hlt,hc⟩:=h.2 hm
   exact ⟨b,o,e,by have:=hb.size;omega,fun j u hu=>(hb.cell (p:=⟨b,o+j,none⟩) hlt).trans (hc j u hu)⟩⟩
mutual
def VIs (w:World):Tree→V6→Prop
 | .mk kd fr to tx items names,x=>x.kd=kd∧x.fr=fr∧x.to=to∧x.tx=tx∧x.n≤x.c∧x.m≤x.d∧RdG namK w x.B x.m names ∧ ∃ xs,RdG valK w x.A x.n xs∧VLs w items xs
def VLs (w:World):List Tree→List V6→Prop
 | [],xs=>xs=[]
 | t :: ts,xs => ∃ x r,xs=x :: r∧VIs w t x∧VLs w ts r
end
section
variable {w w':World}
mutual
theorem VIs.stay (hb:Below w.heap.size w w'):∀ (t:Tree) (x:V6),VIs w t x→VIs w' t x
 | .mk kd fr to tx items names,x,h=>by
   unfold VIs at h ⊢
   obtain ⟨h1,h2,h3,h4,h5,h6,h7,xs,h8,h9⟩:=h
   exact ⟨h1,h2,h3,h4,h5,h6,h7.below hb,xs,h8.below hb,VLs.stay hb items xs h9⟩
theorem VLs.stay (hb:Below w.heap.size w w'):∀ (ts:List Tree) (xs:List V6),VLs w ts xs→VLs w' ts xs
 | [],xs,h=>by unfold VLs at h ⊢;exact h
 | t :: ts,xs,h=>by
   unfold VLs at h ⊢
   obtain ⟨x,r,rfl,h1,h2⟩:=h
   exact ⟨x,r,rfl,VIs.stay hb t x h1,VLs.stay hb ts r h2⟩
end
theorem VLs.len:∀ {ts:List Tree} {xs:List V6},VLs w ts xs→xs.length=ts.length
 | [],xs,h=>by unfold VLs at h;subst h;rfl
 | t :: ts,xs,h=>by
   unfold VLs at h
   obtain ⟨x,r,rfl,_,h2⟩:=h
   simp[VLs.len h2]
theorem VLs.at:∀ {ts:List Tree} {xs:List V6} (i:Nat) (t:Tree),VLs w ts xs→ts[i]?=some t → ∃ x,xs[i]?=some x∧VIs w t x
 | [],xs,i,t,h,e=>by cases e
 | u :: ts,xs,0,t,h,e=>by
   unfold VLs at h
   obtain ⟨x,r,rfl,h1,_⟩:=h
   obtain rfl:u=t:=by simpa using e
   exact ⟨x,rfl,h1⟩
 | u :: ts,xs,i+1,t,h,e=>by
   unfold VLs at h
   obtain ⟨x,r,rfl,_,h2⟩:=h
   obtain ⟨y,hy,hv⟩:=VLs.at i t h2 (by simpa using e)
   exact ⟨y,by simpa using hy,hv⟩
theorem VIs.many {kd:Int} {fr to:Nat} {tx:List UInt8} {items:List Tree} {names:List (List UInt8)} {x:V6} (h:VIs w (.mk kd fr to tx items names) x):x.n=items.length∧x.m=names.length:=by
 unfold VIs at h
 obtain ⟨_,_,_,_,_,_,h7,xs,h8,h9⟩:=h
 exact ⟨by rw[← h8.1,h9.len],h7.1.symm⟩
end
end
section
open Go.RowKit
def ptrK:RowK (Option Addr) where
 T:=39
 S:=45
 n:=1
 bytes:=8
 zero:=.pointer none
 enc:=fun a=>[.pointer a]
 pos:=by decide
 len:=fun _=>rfl
 one:=fun s u h=>by simp at h;subst h;rfl
 under:=Tryz.underlying45
 info:=by kernel_rfl
 zlen:=rfl
 small:=by decide
def pairK:RowK (Addr×Addr) where
 T:=41
 S:=42
 n:=2
 bytes:=16
 zero:=.agg #[.pointer none,.pointer none]
 enc:=fun a=>[.pointer (some a.1),.pointer (some a.2)]
 pos:=by decide
 len:=fun _=>rfl
 one:=fun s u h=>by
   simp at h
   rcases h with rfl|rfl<;>rfl
 under:=Tryz.underlying42
 info:=by kernel_rfl
 zlen:=rfl
 small:=by decide
mutual
def sizeT:Tree→Nat
 | .mk _ _ _ _ items names=>1+names.length+sizeL items
def sizeL:List Tree→Nat
 | []=>0
 | t :: ts=>sizeT t+sizeL ts
end
theorem sizeT_pos:∀ t:Tree,1≤sizeT t
 | .mk _ _ _ _ _ _=>by unfold sizeT;omega
theorem sizeL_len:∀ ts:List Tree,ts.length≤sizeL ts
 | []=>Nat.le_refl _
 | t :: ts=>by
   have:=sizeL_len ts
   have:=sizeT_pos t
   unfold sizeL
   simp
   omega
theorem sizeL_app:∀ ts us:List Tree,sizeL (ts++us)=sizeL ts+sizeL us
 | [],us=>by simp[sizeL]
 | t :: ts,us=>by
   show sizeT t+sizeL (ts++us)=sizeT t+sizeL ts+sizeL us
   rw[sizeL_app ts us]
   omega
def CellsAt (w:World)(p:Addr)(x:V6):Prop:=∃ b o:Nat,p=⟨b,o,none⟩∧b<w.heap.size ∧ ∀ j u,(v6Cells x)[j]?=some u→w.cell? ⟨b,o+j,none⟩=some u
section
variable {w w':World} {p:Addr} {x:V6}
theorem CellsAt.below (h:CellsAt w p x) (hb:Below w.heap.size w w'):CellsAt w' p x:=by
 obtain ⟨b,o,rfl,h1,h2⟩:=h
 exact ⟨b,o,rfl,by have:=hb.size;omega,fun j u hu=>(hb.cell (p:=⟨b,o+j,none⟩) h1).trans (h2 j u hu)⟩
theorem CellsAt.of_own {b:Nat} {T:TypeId} (h:Own w b T (v6Cells x).toArray):CellsAt w ⟨b,0,none⟩ x :=
 ⟨b,0,rfl,h.inside,fun j u hu=>by rw[Nat.zero_add,h.at j];simpa using hu⟩
theorem RdG.item {A:Option Addr} {m:Nat} {xs:List V6} (h:RdG valK w A m xs) {i:Nat} (hx:xs[i]?=some x):∃ b o:Nat,A=some ⟨b,o,none⟩∧CellsAt w ⟨b,o+i*6,none⟩ x:=by
 have hi:i<xs.length:=(List.getElem?_eq_some_iff.1 hx).1
 obtain ⟨b,o,e,hlt,_⟩:=h.2 (by have:=h.1;omega)
 refine ⟨b,o,e,b,o+i*6,rfl,hlt,fun j u hu => ?_⟩
 have:=h.at e hx (j:=j) (u:=u) hu
 rw[show valK.n=6 from rfl,← Nat.add_assoc] at this
 exact this
end
theorem step_row_app {α:Type} {KK:RowK α} {ops:Array Oper} {o:Oper} {a:Act} {w:World} {K:Act→World→Prop} {Q:Exit→Act→World→Prop} {E:Prop} (hgd:o.guard=none) (s x:Operand) (ho:o.op=.call { callee:=.builtin .append,args:=#[s,x],argTypes:=#[KK.S,KK.S] })
   (base:Nat) (v:Value) (l:List α) (hs:a.eval s=v) (hown:GRow KK w base v l) (A:Option Addr) (m c:Nat) (news:List α) (hx:a.eval x=.slice A m c) (hr:RdG KK w A m news)
   (h63:l.length+m≤1000000000) (hbase:base≤w.heap.size)
   (hK:∀ v' w',GRow KK w' base v' (l++news)→w.grownBy w' v.ownBlock→(v'.ownBlock=v.ownBlock∨v'.ownBlock=some w.heap.size)→K (a.put o.dst v') w'):if Region.wanted o (yielded ops a.tmps)=true then Oper.wp Tryz.prog o a w K Q else E:=by
 have hw:Region.wanted o (yielded ops a.tmps)=true:=by simp[Region.wanted,hgd]
 rw[if_pos hw]
 obtain ⟨v',w',hrun,h2,h3,h5⟩:=run_row_append w base o.type v l hown A m c news hr h63 hbase
 unfold Oper.wp execOp
 simp only [ho,resolve,invoke,builtin,Sem.run_bind,Sem.run_pure,Result.andThen_ok,List.map_toArray,List.map_cons,List.map_nil,hs,hx,hrun]
 exact hK v' w' h2 h3 h5
end
section
open Go.RowKit
def evCells (e:Evt):List Value:=[.int .i64 e.kind,.int .i64 e.value,.int .i64 e.fr,.int .i64 e.to,.bool e.step.named,.string ⟨e.step.name.toArray⟩,.int .i64 e.step.index,.string ⟨e.text.toArray⟩]
def evK:RowK Evt where
 T:=61
 S:=55
 n:=8
 bytes:=80
 zero:=.agg #[.int .i64 0,.int .i64 0,.int .i64 0,.int .i64 0,.bool false,.string ⟨#[]⟩,.int .i64 0,.string ⟨#[]⟩]
 enc:=evCells
 pos:=by decide
 len:=fun _=>rfl
 one:=fun e u h=>by
   simp[evCells] at h
   rcases h with rfl|rfl|rfl|rfl|rfl|rfl|rfl|rfl<;>rfl
 under:=Tryz.underlying55
 info:=by kernel_rfl
 zlen:=rfl
 small:=by decide
end
section
mutual
def depT:Tree→Nat
 | .mk kd _ _ _ items _=>if kd=4∨kd=5 then depL items+1 else 0
def depL:List Tree→Nat
 | []=>0
 | t :: ts=>max (depT t) (depL ts)
end
def sgT (k:Int)(t:Tok):Prop:=t.kind=k∧t.begun=false
def TokS (kd:Int)(tx:List UInt8)(ts:List Tok):Prop:=∃ a b,ts=[a,b]∧a.begun=true∧b.text=tx∧a.kind≠0∧scalarK b=kd
mutual
def TokT:Tree→List Tok→Prop
 | .mk kd fr to tx items names,ts =>
   (kd=4∧tx=[]∧names=[] ∧ ∃ a m z,ts=a :: (m++[z])∧sgT 2 a∧sgT 3 z∧TokA items m) ∨
   (kd=5∧tx=[] ∧ ∃ a m z,ts=a :: (m++[z])∧sgT 4 a∧sgT 5 z∧TokO items names m) ∨
   (¬ (kd=4∨kd=5)∧items=[]∧names=[]∧TokS kd tx ts)
def TokA:List Tree→List Tok→Prop
 | [],m=>m=[]
 | t :: r,m => ∃ a b,m=a++b∧TokT t a∧((r=[]∧b=[])∨(r≠[] ∧ ∃ c b',b=c :: b'∧sgT 6 c∧TokA r b'))
def TokO:List Tree→List (List UInt8)→List Tok→Prop
 | [],names,m=>names=[]∧m=[]
 | t :: r,names,m => ∃ s ns x y z a b,names=s :: ns∧m=x :: y :: z :: (a++b)∧x.begun=true∧x.kind=8∧y.text=s∧sgT 7 z∧TokT t a∧((r=[]∧ns=[]∧b=[])∨(r≠[] ∧ ∃ c b',b=c :: b'∧sgT 6 c∧TokO r ns b'))
end
def RunT (n:Nst)(ts:List Tok)(n':Nst)(es:List Evt):Prop:=takeAll n ts=(n',es,0)
theorem RunT.cons {n m n':Nst} {t:Tok} {ts:List Tok} {e es:List Evt} (h:takeN n t=(m,e,0)) (g:RunT m ts n' es):RunT n (t :: ts) n' (e++es):=by
 show (if (takeN n t).2.2≠0 then takeN n t else ((takeAll (takeN n t).1 ts).1,(takeN n t).2.1++(takeAll (takeN n t).1 ts).2.1,(takeAll (takeN n t).1 ts).2.2))=_
 have g:takeAll m ts=(n',es,0):=g
 rw[h]
 simp only [g]
 rfl
theorem RunT.app {x:List Tok}:∀ {n m n':Nst} {y:List Tok} {e es:List Evt},RunT n x m e→RunT m y n' es→RunT n (x++y) n' (e++es):=by
 induction x with
 | nil=>intro n m n' y e es h g;cases h;exact g
 | cons t x ih =>
   intro n m n' y e es h g
   have h:takeAll n (t :: x)=(m,e,0):=h
   have hf:(takeAll n (t :: x)).2.2=0:=by rw[h]
   obtain ⟨a1,a2,a3,a4⟩:=takeAll_ok hf
   rw[h] at a3 a4
   have r1:RunT (takeN n t).1 x m (takeAll (takeN n t).1 x).2.1:=by
     show takeAll _ _=_
     exact Prod.ext a3.symm (Prod.ext rfl a2)
   have:=RunT.cons (n:=n) (t:=t) (e:=(takeN n t).2.1) (Prod.ext rfl (Prod.ext rfl a1)) (ih r1 g)
   rw[← List.append_assoc] at this
   have a4:e=(takeN n t).2.1++(takeAll (takeN n t).1 x).2.1:=a4
   rw[← a4] at this
   exact this
def aftN (n:Nst):Nst:=⟨n.most,moreO n.op,if n.op.isEmpty then .nothing else .next,0,true⟩
def addB (b:Bld) (s:Stp) (t:Tree):Bld:=match b.op with
 | []=>⟨[],some t⟩
 | (p,ps) :: r => { b with op:=(addT t s p,ps) :: r }
theorem take_beginT (n:Nst) (a:Tok) (hb:n.begun=0) (hv:n.may.val=true) (ha:a.begun=true):takeN n a=(⟨n.most,n.op,n.may,a.kind,true⟩,[⟨1,beginK a.kind,a.fr,0,stepO n.op,[]⟩],0):=by
 obtain ⟨most,op,may,begun,came⟩:=n
 obtain ⟨kd,bg,fr,to,tx⟩:=a
 have hb:begun=0:=hb
 have ha:bg=true:=ha
 subst hb ha
 unfold takeN
 rw[if_pos rfl]
 cases may<;>first
   | (cases hv;done)
   | (unfold takeO;simp[May.nam,May.val])
theorem take_open (n:Nst) (a:Tok) (o:Bool) (hb:n.begun=0) (hv:n.may.val=true) (ha:sgT (if o then 4 else 2) a) (hd:n.op.length<n.most) :
   takeN n a=(⟨n.most,⟨o,a.fr,stepO n.op,0,[]⟩ :: n.op,if o then .member else .item,0,true⟩,[⟨1,if o then 5 else 4,a.fr,0,stepO n.op,[]⟩],0):=by
 obtain ⟨most,op,may,begun,came⟩:=n
 obtain ⟨kd,bg,fr,to,tx⟩:=a
 obtain ⟨h1,h2⟩:=ha
 have hb:begun=0:=hb
 have h2:bg=false:=h2
 have h1:kd=if o then 4 else 2:=h1
 have hd:op.length<most:=hd
 subst hb h2 h1
 unfold takeN
 rw[if_pos rfl]
 cases may<;>first
   | (cases hv;done)
   | (cases o<;>unfold takeO<;>simp[May.val,Nat.not_le.2 hd])
theorem take_close (n:Nst) (z:Tok) (o:Opn) (q:List Opn) (hb:n.begun=0) (ho:n.op=o :: q) (hm:n.may=.next∨n.may=if o.obj then .member else .item) (hz:sgT (if o.obj then 5 else 3) z) :
   takeN n z=(aftN { n with op:=q },[⟨2,o.kd,o.fr,z.to,o.step,[]⟩],0):=by
 obtain ⟨most,op,may,begun,came⟩:=n
 obtain ⟨kd,bg,fr,to,tx⟩:=z
 obtain ⟨ob,ofr,ost,om,onm⟩:=o
 obtain ⟨h1,h2⟩:=hz
 have hb:begun=0:=hb
 have h2:bg=false:=h2
 have h1:kd=if ob then 5 else 3:=h1
 have ho:op=_:=ho
 have hm:may=.next∨may=if ob then .member else .item:=hm
 subst hb h2 h1 ho
 unfold takeN
 rw[if_pos rfl]
 rcases hm with rfl|rfl<;>cases ob<;>unfold takeO<;>simp[May.val,aftN,endedN]
theorem take_commaT (n:Nst) (c:Tok) (o:Opn) (q:List Opn) (hb:n.begun=0) (ho:n.op=o :: q) (hm:n.may=.next) (hc:sgT 6 c) :
   takeN n c=(⟨n.most,n.op,if o.obj then .name else .value,0,true⟩,[],0):=by
 obtain ⟨most,op,may,begun,came⟩:=n
 obtain ⟨kd,bg,fr,to,tx⟩:=c
 obtain ⟨ob,ofr,ost,om,onm⟩:=o
 obtain ⟨h1,h2⟩:=hc
 have hb:begun=0:=hb
 have h2:bg=false:=h2
 have h1:kd=6:=h1
 have ho:op=_:=ho
 have hm:may=.next:=hm
 subst hb h2 h1 ho hm
 unfold takeN
 rw[if_pos rfl]
 cases ob<;>unfold takeO<;>simp[May.val]
end
section
def addTs (r:List Tree) (ns:List (List UInt8)):Tree→Tree
 | .mk kd fr to tx items names=>.mk kd fr to tx (items++r) (names++ns)
theorem addTs_nil (P:Tree):addTs [] [] P=P:=by cases P;simp[addTs]
theorem addTs_one (t:Tree) (s:Stp) (r:List Tree) (ns:List (List UInt8)) (P:Tree):addTs r ns (addT t s P)=addTs (t :: r) ((if s.named then [s.name] else [])++ns) P:=by
 cases P
 simp only [addTs,addT]
 split<;>simp
theorem addB_open (P:Tree)(ps:Stp)(rest:List (Tree×Stp))(rt:Option Tree)(s:Stp)(t:Tree):addB ⟨(P,ps) :: rest,rt⟩ s t=⟨(addT t s P,ps) :: rest,rt⟩:=rfl
theorem bld_whole (b:Bld) (v f t:Nat) (w:Int) (s s':Stp) (tx:List UInt8) (items:List Tree) (names:List (List UInt8)) (e:Evt) (he:e.kind=2) :
   bldE ⟨(.mk w f t [] items names,s) :: b.op,b.root⟩ e=addB b s (.mk e.value f e.to e.text items names):=by
 obtain ⟨op,rt⟩:=b
 unfold bldE
 rw[if_neg (by rw[he];decide)]
 cases op with
 | nil=>rfl
 | cons p r=>obtain ⟨p,ps⟩:=p;rfl
theorem scal_tok (n:Nst) (ts:List Tok) (kd:Int) (tx:List UInt8) (h:TokS kd tx ts) (hb:n.begun=0) (hv:n.may.val=true):∃ es f g,RunT n ts (aftN n) es ∧ ∀ b,bldA b es=addB b (stepO n.op) (.mk kd f g tx [] []):=by
 obtain ⟨a,b,rfl,h1,h2,h3,h4⟩:=h
 have r1:=take_beginT n a hb hv h1
 have r2:=val_end ⟨n.most,n.op,n.may,a.kind,true⟩ b h3 hv
 refine ⟨_,a.fr,b.to,RunT.cons r1 (RunT.cons r2 rfl),fun bl => ?_⟩
 rw[← h2,← h4]
 exact bld_whole bl 0 a.fr 0 (beginK a.kind) (stepO n.op) (stepO n.op) [] [] [] ⟨2,scalarK b,b.fr,b.to,stepO n.op,b.text⟩ rfl
theorem name_tok (n:Nst) (x y z:Tok) (hb:n.begun=0) (hm:n.may.nam=true) (hx:x.begun=true) (hx8:x.kind=8) (hz:sgT 7 z):RunT n [x,y,z] ⟨n.most,nameO y.text n.op,.value,0,true⟩ []:=by
 obtain ⟨most,op,may,begun,came⟩:=n
 obtain ⟨kd,bg,fr,to,tx⟩:=x
 obtain ⟨kz,bz,fz,tz,xz⟩:=z
 obtain ⟨g1,g2⟩:=hz
 have hb:begun=0:=hb
 have hx:bg=true:=hx
 have hx8:kd=8:=hx8
 have g1:kz=7:=g1
 have g2:bz=false:=g2
 subst hb hx hx8 g1 g2
 have r1:takeN ⟨most,op,may,0,came⟩ ⟨8,true,fr,to,tx⟩=(⟨most,op,may,8,true⟩,[],0):=by
   unfold takeN
   rw[if_pos rfl]
   cases may<;>first
     | (cases hm;done)
     | (unfold takeO;simp[May.nam])
 have r2:takeN ⟨most,op,may,8,true⟩ y=(⟨most,nameO y.text op,.colon,0,true⟩,[],0):=by
   unfold takeN
   rw[if_neg (show ¬ (8:Int)=0 by decide),if_pos hm]
 have r3:takeN ⟨most,nameO y.text op,.colon,0,true⟩ ⟨7,false,fz,tz,xz⟩=(⟨most,nameO y.text op,.value,0,true⟩,[],0):=by
   unfold takeN
   rw[if_pos rfl]
   unfold takeO
   simp
 exact RunT.cons r1 (RunT.cons r2 (RunT.cons r3 rfl))
mutual
theorem val_tok:∀ (t:Tree) (ts:List Tok) (n:Nst),TokT t ts→n.begun=0→n.may.val=true→n.op.length+depT t≤n.most → ∃ es t',RunT n ts (aftN n) es∧sameT t t'=true ∧ ∀ b,bldA b es=addB b (stepO n.op) t'
 | .mk kd fr to tx items names,ts,n,h,hb,hv,hd=>by
   unfold TokT at h
   rcases h with ⟨rfl,rfl,rfl,a,m,z,rfl,ha,hz,hm⟩|⟨rfl,rfl,a,m,z,rfl,ha,hz,hm⟩|⟨hk,rfl,rfl,hs⟩
   ·unfold depT at hd
    rw[if_pos (.inl rfl)] at hd
    have r1:=take_open n a false hb hv ha (by omega)
    obtain ⟨es,r',n',o',g1,g2,g3,g4,g5,g6,g7,g8⟩:=arr_tok items m ⟨n.most,⟨false,a.fr,stepO n.op,0,[]⟩ :: n.op,.item,0,true⟩ ⟨false,a.fr,stepO n.op,0,[]⟩ n.op hm rfl rfl rfl rfl (by show n.op.length+1+depL items≤n.most;omega)
    have r2:=take_close n' z o' n.op g3 g5 (by rw[g6];exact g2.imp id (fun h=>h.2)) (by rw[g6];exact hz)
    have e:aftN { n' with op:=n.op } = aftN n:=by unfold aftN;rw[g4]
    rw[e] at r2
    refine ⟨_,.mk 4 a.fr z.to [] r' [],RunT.cons r1 (RunT.app g1 (RunT.cons r2 rfl)),?_,fun b => ?_⟩
    ·unfold sameT
     rw[g7]
     rfl
    ·rw[bldA_app,bldA_app]
     have h1:bldA b [(⟨1,if false=true then 5 else 4,a.fr,0,stepO n.op,[]⟩:Evt)]=⟨(.mk 4 a.fr 0 [] [] [],stepO n.op) :: b.op,b.root⟩:=rfl
     rw[h1,g8]
     have hk:o'.kd=4:=by unfold Opn.kd;rw[g6];rfl
     rw[hk]
     have:=bld_whole b 0 a.fr 0 4 (stepO n.op) (stepO n.op) [] r' [] ⟨2,4,o'.fr,z.to,o'.step,[]⟩ rfl
     simp only [addTs,List.nil_append]
     exact this
   ·unfold depT at hd
    rw[if_pos (.inr rfl)] at hd
    have r1:=take_open n a true hb hv ha (by omega)
    obtain ⟨es,r',n',o',g1,g2,g3,g4,g5,g6,g7,g8⟩:=obj_tok items names m ⟨n.most,⟨true,a.fr,stepO n.op,0,[]⟩ :: n.op,.member,0,true⟩ ⟨true,a.fr,stepO n.op,0,[]⟩ n.op hm rfl rfl rfl rfl (by show n.op.length+1+depL items≤n.most;omega)
    have r2:=take_close n' z o' n.op g3 g5 (by rw[g6];exact g2.imp id (fun h=>h.2)) (by rw[g6];exact hz)
    have e:aftN { n' with op:=n.op } = aftN n:=by unfold aftN;rw[g4]
    rw[e] at r2
    refine ⟨_,.mk 5 a.fr z.to [] r' names,RunT.cons r1 (RunT.app g1 (RunT.cons r2 rfl)),?_,fun b => ?_⟩
    ·unfold sameT
     rw[g7]
     simp
    ·rw[bldA_app,bldA_app]
     have h1:bldA b [(⟨1,if true=true then 5 else 4,a.fr,0,stepO n.op,[]⟩:Evt)]=⟨(.mk 5 a.fr 0 [] [] [],stepO n.op) :: b.op,b.root⟩:=rfl
     rw[h1,g8]
     have hk:o'.kd=5:=by unfold Opn.kd;rw[g6];rfl
     rw[hk]
     have:=bld_whole b 0 a.fr 0 5 (stepO n.op) (stepO n.op) [] r' names ⟨2,5,o'.fr,z.to,o'.step,[]⟩ rfl
     simp only [addTs,List.nil_append]
     exact this
   ·obtain ⟨es,f,g,h1,h2⟩:=scal_tok n ts kd tx hs hb hv
    refine ⟨es,_,h1,?_,h2⟩
    unfold sameT sameL
    simp
theorem arr_tok:∀ (r:List Tree) (m:List Tok) (n:Nst) (o:Opn) (q:List Opn),TokA r m→n.begun=0→n.may.val=true→n.op=o :: q→o.obj=false→n.op.length+depL r≤n.most →
   ∃ es r' n' o',RunT n m n' es∧(n'.may=.next∨(r=[]∧n'.may=n.may))∧n'.begun=0∧n'.most=n.most∧n'.op=o' :: q∧o'.obj=false∧sameL r r'=true ∧ ∀ P ps rest rt,bldA ⟨(P,ps) :: rest,rt⟩ es=⟨(addTs r' [] P,ps) :: rest,rt⟩
 | [],m,n,o,q,h,hb,hv,ho,hoo,hd=>by
   unfold TokA at h
   subst h
   exact ⟨[],[],n,o,rfl,.inr ⟨rfl,rfl⟩,hb,rfl,ho,hoo,by unfold sameL;rfl,fun P ps rest rt=>by rw[addTs_nil];rfl⟩
 | t :: r,m,n,o,q,h,hb,hv,ho,hoo,hd=>by
   unfold TokA at h
   obtain ⟨a,b,rfl,ht,h⟩:=h
   unfold depL at hd
   obtain ⟨e1,t',v1,v2,v3⟩:=val_tok t a n ht hb hv (by omega)
   have hs:(stepO n.op).named=false:=by rw[ho];show (if o.obj=true then (⟨true,o.name,0⟩:Stp) else ⟨false,[],o.many⟩).named=false;rw[hoo];rfl
   have hop:(aftN n).op = { o with many:=o.many+1 } :: q:=by unfold aftN;rw[ho];rfl
   have hmay:(aftN n).may=.next:=by unfold aftN;rw[ho];rfl
   rcases h with ⟨rfl,rfl⟩|⟨hr,c,b',rfl,hc,h⟩
   ·refine ⟨e1,[t'],aftN n,_,by rw[List.append_nil];exact v1,.inl hmay,rfl,rfl,hop,hoo,by unfold sameL;rw[v2];unfold sameL;rfl,fun P ps rest rt => ?_⟩
    rw[v3,addB_open,← addTs_nil (addT t' (stepO n.op) P),addTs_one,hs]
    rfl
   ·have r1:=take_commaT (aftN n) c { o with many:=o.many+1 } q rfl hop hmay hc
    have hq:(if ({ o with many:=o.many+1 }:Opn).obj then May.name else May.value)=May.value:=by show (if o.obj then May.name else May.value)=_;rw[hoo];rfl
    rw[hq] at r1
    obtain ⟨es,r',n',o',g1,g2,g3,g4,g5,g6,g7,g8⟩:=arr_tok r b' ⟨(aftN n).most,(aftN n).op,.value,0,true⟩ { o with many:=o.many+1 } q h rfl rfl hop hoo (by show (moreO n.op).length+depL r≤n.most;rw[more_len];omega)
    refine ⟨_,t' :: r',n',o',RunT.app v1 (RunT.cons r1 g1),.inl (g2.resolve_right fun h=>hr h.1),g3,g4,g5,g6,by unfold sameL;rw[v2,g7];rfl,fun P ps rest rt => ?_⟩
    rw[bldA_app,v3,addB_open,List.nil_append,g8,addTs_one,hs]
    rfl
theorem obj_tok:∀ (r:List Tree) (names:List (List UInt8)) (m:List Tok) (n:Nst) (o:Opn) (q:List Opn),TokO r names m→n.begun=0→n.may.nam=true→n.op=o :: q→o.obj=true→n.op.length+depL r≤n.most →
   ∃ es r' n' o',RunT n m n' es∧(n'.may=.next∨(r=[]∧n'.may=n.may))∧n'.begun=0∧n'.most=n.most∧n'.op=o' :: q∧o'.obj=true∧sameL r r'=true ∧ ∀ P ps rest rt,bldA ⟨(P,ps) :: rest,rt⟩ es=⟨(addTs r' names P,ps) :: rest,rt⟩
 | [],names,m,n,o,q,h,hb,hv,ho,hoo,hd=>by
   unfold TokO at h
   obtain ⟨rfl,rfl⟩:=h
   exact ⟨[],[],n,o,rfl,.inr ⟨rfl,rfl⟩,hb,rfl,ho,hoo,by unfold sameL;rfl,fun P ps rest rt=>by rw[addTs_nil];rfl⟩
 | t :: r,names,m,n,o,q,h,hb,hv,ho,hoo,hd=>by
   unfold TokO at h
   obtain ⟨s,ns,x,y,z,a,b,rfl,rfl,hx,hx8,hy,hz,ht,h⟩:=h
   unfold depL at hd
   have r0:=name_tok n x y z hb hv hx hx8 hz
   have hop0:nameO y.text n.op = { o with name:=s } :: q:=by rw[ho,hy];rfl
   rw[hop0] at r0
   have hlen:({ o with name:=s } :: q:List Opn).length=n.op.length:=by rw[ho];rfl
   obtain ⟨e1,t',v1,v2,v3⟩:=val_tok t a ⟨n.most,{ o with name:=s } :: q,.value,0,true⟩ ht rfl rfl (by show ({ o with name:=s } :: q:List Opn).length+depT t≤n.most;rw[hlen];omega)
   have hs:stepO ({ o with name:=s } :: q)=⟨true,s,0⟩:=by show (if o.obj=true then (⟨true,s,0⟩:Stp) else _)=_;rw[hoo];rfl
   have v3:∀ b,bldA b e1=addB b ⟨true,s,0⟩ t':=fun b=>by rw[← hs];exact v3 b
   have hop:(aftN ⟨n.most,{ o with name:=s } :: q,.value,0,true⟩).op = { o with name:=s,many:=o.many+1 } :: q:=rfl
   have e0:x :: y :: z :: (a++b)=[x,y,z]++(a++b):=rfl
   rw[e0]
   rcases h with ⟨rfl,rfl,rfl⟩|⟨hr,c,b',rfl,hc,h⟩
   ·refine ⟨_,[t'],aftN ⟨n.most,{ o with name:=s } :: q,.value,0,true⟩,_,RunT.app r0 (by rw[List.append_nil];exact v1),.inl rfl,rfl,rfl,hop,hoo,by unfold sameL;rw[v2];unfold sameL;rfl,fun P ps rest rt => ?_⟩
    rw[List.nil_append,v3,addB_open,← addTs_nil (addT t' _ P),addTs_one]
    rfl
   ·have r1:=take_commaT (aftN ⟨n.most,{ o with name:=s } :: q,.value,0,true⟩) c { o with name:=s,many:=o.many+1 } q rfl hop rfl hc
    have hq:(if ({ o with name:=s,many:=o.many+1 }:Opn).obj then May.name else May.value)=May.name:=by show (if o.obj then May.name else May.value)=_;rw[hoo];rfl
    rw[hq] at r1
    obtain ⟨es,r',n',o',g1,g2,g3,g4,g5,g6,g7,g8⟩:=obj_tok r ns b' ⟨n.most,{ o with name:=s,many:=o.many+1 } :: q,.name,0,true⟩ { o with name:=s,many:=o.many+1 } q h rfl rfl rfl hoo (by rw[ho] at hd;show q.length+1+depL r≤n.most;have:(o :: q).length=q.length+1:=rfl;omega)
    refine ⟨_,t' :: r',n',o',RunT.app r0 (RunT.app v1 (RunT.cons r1 g1)),.inl (g2.resolve_right fun h=>hr h.1),g3,g4,g5,g6,by unfold sameL;rw[v2,g7];rfl,fun P ps rest rt => ?_⟩
    rw[List.nil_append,bldA_app,v3,addB_open,List.nil_append,g8,addTs_one]
    rfl
end
end
section
def runL:LSt→List UInt8→Nat→Option (LSt×List Tok)
 | st,[],k=>some (st,[])
 | st,c :: t,k=>if (stepL st k c).2.1≠0 then none else (runL (stepL st k c).2.2 t (k+1)).map fun r=>(r.1,(stepL st k c).1++r.2)
theorem runL_cons {st st1 st':LSt} {c:UInt8} {t:List UInt8} {k:Nat} {a b:List Tok} (h:stepL st k c=(a,0,st1)) (g:runL st1 t (k+1)=some (st',b)):runL st (c :: t) k=some (st',a++b):=by
 show (if (stepL st k c).2.1≠0 then none else (runL (stepL st k c).2.2 t (k+1)).map fun r=>(r.1,(stepL st k c).1++r.2))=_
 rw[h]
 simp only [g]
 rfl
theorem runL_uncons {st st':LSt} {c:UInt8} {t:List UInt8} {k:Nat} {ts:List Tok} (h:runL st (c :: t) k=some (st',ts)):(stepL st k c).2.1=0 ∧ ∃ b,runL (stepL st k c).2.2 t (k+1)=some (st',b)∧ts=(stepL st k c).1++b:=by
 by_cases hf:(stepL st k c).2.1≠0
 ·have:runL st (c :: t) k=none:=by show (if _ then _ else _)=_;rw[if_pos hf]
  rw[this] at h;cases h
 ·have e:runL st (c :: t) k=(runL (stepL st k c).2.2 t (k+1)).map fun r=>(r.1,(stepL st k c).1++r.2):=by show (if _ then _ else _)=_;rw[if_neg hf]
  rw[e] at h
  cases hr:runL (stepL st k c).2.2 t (k+1) with
  | none=>rw[hr] at h;cases h
  | some r =>
    obtain ⟨a,b⟩:=r
    rw[hr] at h
    cases h
    exact ⟨Decidable.not_not.1 hf,b,rfl,rfl⟩
theorem runL_app (x:List UInt8):∀ {y:List UInt8} {st st1 st':LSt} {k:Nat} {a b:List Tok},runL st x k=some (st1,a)→runL st1 y (k+x.length)=some (st',b)→runL st (x++y) k=some (st',a++b):=by
 induction x with
 | nil=>intro y st st1 st' k a b h g;cases h;exact g
 | cons c t ih =>
   intro y st st1 st' k a b h g
   obtain ⟨h1,a',h2,rfl⟩:=runL_uncons h
   have hl:k+1+t.length=k+(c :: t).length:=by rw[List.length_cons];omega
   have:=ih h2 (by rw[hl];exact g)
   rw[List.cons_append,List.append_assoc]
   exact runL_cons (Prod.ext rfl (Prod.ext h1 rfl)) this
theorem takeAll_app (x:List Tok):∀ (n:Nst) (y:List Tok),(takeAll n (x++y)).2.2=0→(takeAll n x).2.2=0∧(takeAll (takeAll n x).1 y).2.2=0∧(takeAll n (x++y)).1=(takeAll (takeAll n x).1 y).1∧(takeAll n (x++y)).2.1=(takeAll n x).2.1++(takeAll (takeAll n x).1 y).2.1:=by
 induction x with
 | nil=>intro n y h;exact ⟨rfl,h,rfl,rfl⟩
 | cons t x ih =>
   intro n y h
   obtain ⟨a1,a2,a3,a4⟩:=takeAll_ok h
   obtain ⟨b1,b2,b3,b4⟩:=ih _ _ a2
   have e:takeAll n (t :: x)=((takeAll (takeN n t).1 x).1,(takeN n t).2.1++(takeAll (takeN n t).1 x).2.1,(takeAll (takeN n t).1 x).2.2):=by show (if _ then _ else _)=_;rw[if_neg (fun h=>h a1)]
   rw[e]
   exact ⟨b1,b2,a3.trans b3,a4.trans (by show _=(_++_)++_;rw[List.append_assoc];exact congrArg _ b4)⟩
theorem runL_runC (l:List UInt8):∀ (st:LSt) (n:Nst) (k:Nat) (st':LSt) (ts:List Tok),runL st l k=some (st',ts)→(takeAll n ts).2.2=0→runC st n l k=some (st',(takeAll n ts).1,(takeAll n ts).2.1):=by
 induction l with
 | nil=>intro st n k st' ts h _;cases h;rfl
 | cons c t ih =>
   intro st n k st' ts h hf
   obtain ⟨h1,b,h2,rfl⟩:=runL_uncons h
   obtain ⟨a1,a2,a3,a4⟩:=takeAll_app _ _ _ hf
   have hb:=byte_ok' st n k c a1 h1
   have e1:runC st n (c :: t) k=(runC (byteP st n k c).2.2.1 (byteP st n k c).2.2.2 t (k+1)).map fun r=>(r.1,r.2.1,(byteP st n k c).1++r.2.2):=by show (if _ then _ else _)=_;rw[if_neg (fun h=>h hb)]
   have:=ih (stepL st k c).2.2 (takeAll n (stepL st k c).1).1 (k+1) st' b h2 a2
   rw[e1]
   show (runC (stepL st k c).2.2 (takeAll n (stepL st k c).1).1 t (k+1)).map _=_
   rw[this,a3,a4]
   rfl
def strT (l:List UInt8):List UInt8:=34 :: (putL l++[34])
mutual
def showT:Tree→List UInt8
 | .mk kd _ _ tx items names=>if kd=3 then strT tx else if kd=4 then 91 :: (showA items++[93]) else if kd=5 then 123 :: (showO items names++[125]) else tx
def showA:List Tree→List UInt8
 | []=>[]
 | t :: r=>showT t++(if r.isEmpty then [] else 44 :: showA r)
def showO:List Tree→List (List UInt8)→List UInt8
 | [],_=>[]
 | t :: r,names=>strT (names.headD [])++58 :: (showT t++(if r.isEmpty then [] else 44 :: showO r names.tail))
end
def newL (d:Nat):List UInt8:=10 :: List.replicate d 32
mutual
def lineT (d:Nat):Tree→List UInt8
 | .mk kd fr to tx items names=>if items.isEmpty then showT (.mk kd fr to tx items names) else if kd=4 then 91 :: (lineA d items++(newL (2*d)++[93])) else 123 :: (lineO d items names++(newL (2*d)++[125]))
def lineA (d:Nat):List Tree→List UInt8
 | []=>[]
 | t :: r=>newL (2*d+2)++(lineT (d+1) t++(if r.isEmpty then [] else 44 :: lineA d r))
def lineO (d:Nat):List Tree→List (List UInt8)→List UInt8
 | [],_=>[]
 | t :: r,names=>newL (2*d+2)++(strT (names.headD [])++58 :: 32 :: (lineT (d+1) t++(if r.isEmpty then [] else 44 :: lineO d r names.tail)))
end
end
section
theorem str_run (l:List UInt8):∀ (q:QSt) (f:Nat) (acc:List UInt8) (n k:Nat) (u:List UInt8) (m:Nat),readQ q l acc n=some (u,m)→m=n+l.length→runL (.str q f acc) l k=some (.out,[⟨8,false,f,k+l.length,u⟩]):=by
 induction l with
 | nil=>intro q f acc n k u m h;cases h
 | cons c t ih =>
   intro q f acc n k u m h hm
   have e:stepL (.str q f acc) k c=strL q f acc k c (stepQ q c):=rfl
   cases hs:stepQ q c with
   | none=>rw[readQ_no hs] at h;cases h
   | some x =>
     obtain ⟨q',y⟩:=x
     rw[hs] at e
     by_cases hd:q'=.done
     ·subst hd
      rw[readQ_done hs] at h
      cases h
      have ht:t=[]:=by
        rw[List.length_cons] at hm
        exact List.length_eq_zero_iff.1 (by omega)
      subst ht
      exact runL_cons e rfl
     ·have e':strL q f acc k c (some (q',y))=([],0,.str q' f (acc++y)):=by cases q'<;>first|rfl|exact absurd rfl hd
      rw[e'] at e
      rw[readQ_on hs hd] at h
      have:=ih q' f (acc++y) (n+1) (k+1) u m h (by rw[List.length_cons] at hm;omega)
      have hl:k+1+t.length=k+(c :: t).length:=by rw[List.length_cons];omega
      rw[hl] at this
      exact runL_cons e this
theorem strT_run (l:List UInt8) (h:badU l = -1) (k:Nat):∃ a b,runL .out (strT l) k=some (.out,[a,b])∧a.begun=true∧a.kind=8∧b.text=l∧b.kind=8:=by
 have h1:=read_back l
 rw[norm_id h] at h1
 have h2:=str_run (putL l++[34]) .plain k [] 0 (k+1) l _ h1 (by rw[List.length_append];simp)
 have e:stepL .out k 34=([⟨8,true,k,k,[]⟩],0,.str .plain k []):=rfl
 exact ⟨_,_,runL_cons e h2,rfl,rfl,rfl,rfl⟩
theorem word_run (l:List UInt8) (h:l=lT∨l=lF∨l=lN) (k:Nat):∃ a b,runL .out l k=some (.out,[a,b])∧a.begun=true∧a.kind=10∧b.text=l∧b.kind=10:=by
 rcases h with rfl|rfl|rfl<;>exact ⟨_,_,rfl,rfl,rfl,rfl,rfl⟩
theorem blank_run (k:Nat) (c:UInt8) (h1:kindI c.toNat=1):stepL .out k c=([],0,.out):=by
 show outL k c=_
 unfold outL
 rw[if_pos h1]
theorem blanks_run (l:List UInt8):∀ (k:Nat),(∀ c∈l,kindI c.toNat=1)→runL .out l k=some (.out,[]):=by
 induction l with
 | nil=>intro k _;rfl
 | cons c t ih =>
   intro k h
   exact runL_cons (blank_run k c (h c List.mem_cons_self)) (ih (k+1) fun d hd=>h d (List.mem_cons_of_mem _ hd))
theorem newL_run (d k:Nat):runL .out (newL d) k=some (.out,[]):=by
 apply blanks_run
 intro c hc
 rcases List.mem_cons.1 hc with rfl|h
 ·rfl
 ·obtain ⟨_,rfl⟩:=List.mem_replicate.1 h
  rfl
def numA:Int→List UInt8→Option Int
 | a,[]=>some a
 | a,c :: t=>if nxI a c.toNat≠0 then numA (nxI a c.toNat) t else none
theorem num_run (l:List UInt8):∀ (a:Int) (f k:Nat) (p:List UInt8) (a':Int),numA a l=some a'→runL (.num a f p) l k=some (.num a' f (p++l),[]):=by
 induction l with
 | nil=>intro a f k p a' h;cases h;rw[List.append_nil];rfl
 | cons c t ih =>
   intro a f k p a' h
   by_cases hn:nxI a c.toNat≠0
   ·have e:stepL (.num a f p) k c=([],0,.num (nxI a c.toNat) f (p++[c])):=by show (if _ then _ else _)=_;rw[if_pos hn]
    have h:numA (nxI a c.toNat) t=some a':=by
      have h':(if nxI a c.toNat≠0 then numA (nxI a c.toNat) t else none)=some a':=h
      rwa [if_pos hn] at h'
    have:=ih _ f (k+1) (p++[c]) a' h
    rw[List.append_assoc] at this
    exact runL_cons e this
   ·have h':(if nxI a c.toNat≠0 then numA (nxI a c.toNat) t else none)=some a':=h
    rw[if_neg hn] at h'
    cases h'
end
section
mutual
def GoodT:Tree→Prop
 | .mk kd fr to tx items names =>
   (kd=4∧tx=[]∧names=[]∧GoodL items) ∨
   (kd=5∧tx=[]∧names.length=items.length∧(∀ s∈names,badU s = -1)∧GoodL items) ∨
   (items=[]∧names=[]∧((kd=3∧badU tx = -1)∨(kd=2 ∧ ∃ c t a,tx=c :: t∧kindI c.toNat=9∧numA (nxI 0 c.toNat) t=some a∧whI a=true)∨(kd=1∧(tx=lT∨tx=lF))∨(kd=0∧tx=lN)))
def GoodL:List Tree→Prop
 | []=>True
 | t :: ts=>GoodT t∧GoodL ts
end
def EndT (t:Tree)(ts:List Tok)(st:LSt):Prop:=(st=.out∧TokT t ts)∨(∃ a f p,st=.num a f p∧whI a=true ∧ ∀ j,TokT t (ts++[⟨9,false,f,j,p⟩]))
def sepB (c:UInt8):Prop:=c=44∨c=93∨c=125∨c=10
theorem sep_nx {c:UInt8} (h:sepB c) (a:Int):nxI a c.toNat=0∧stickI c.toNat=false:=by
 rcases h with rfl|rfl|rfl|rfl<;>exact ⟨by unfold nxI;simp[isDigitI],rfl⟩
theorem val_then (t:Tree) (s:List UInt8) (st:LSt) (ts:List Tok) (k:Nat) (h:runL .out s k=some (st,ts)) (hE:EndT t ts st) (c:UInt8) (hc:sepB c) (rest:List UInt8) (st':LSt) (b:List Tok) (hr:runL .out (c :: rest) (k+s.length)=some (st',b)) :
   ∃ ts1,TokT t ts1∧runL .out (s++c :: rest) k=some (st',ts1++b):=by
 rcases hE with ⟨rfl,hT⟩|⟨a,f,p,rfl,hw,hT⟩
 ·exact ⟨ts,hT,runL_app s h hr⟩
 ·obtain ⟨g1,b',g2,rfl⟩:=runL_uncons hr
  obtain ⟨n1,n2⟩:=sep_nx hc a
  refine ⟨_,hT (k+s.length),?_⟩
  have e:stepL (.num a f p) (k+s.length) c=(⟨9,false,f,k+s.length,p⟩ :: (outL (k+s.length) c).1,(outL (k+s.length) c).2.1,(outL (k+s.length) c).2.2):=by
    show (if _ then _ else if _ then _ else _)=_
    rw[if_neg (fun h=>h n1),if_pos (by rw[hw,n2];rfl)]
  have g1:(outL (k+s.length) c).2.1=0:=g1
  rw[g1] at e
  have:=runL_app s h (runL_cons e g2)
  rw[this,List.append_assoc]
  rfl
theorem scalar_tok (kd K:Int) (fr to:Nat) (tx:List UInt8) (a b:Tok) (hk:¬ (kd=4∨kd=5)) (h1:a.begun=true) (h2:a.kind≠0) (h3:b.text=tx) (h4:scalarK b=kd):TokT (.mk kd fr to tx [] []) [a,b]:=by
 unfold TokT
 exact .inr (.inr ⟨hk,rfl,rfl,a,b,rfl,h1,h3,h2,h4⟩)
mutual
theorem show_run:∀ (t:Tree),GoodT t → ∀ k,∃ st ts,runL .out (showT t) k=some (st,ts)∧EndT t ts st
 | .mk kd fr to tx items names,h,k=>by
   unfold GoodT at h
   rcases h with ⟨rfl,rfl,rfl,hi⟩|⟨rfl,rfl,hn,hs,hi⟩|⟨rfl,rfl,h⟩
   ·have e:showT (.mk 4 fr to [] items [])=91 :: (showA items++[93]):=by unfold showT;rfl
    rw[e]
    have hz:runL .out [93] (k+1+(showA items).length)=some (.out,[⟨3,false,k+1+(showA items).length,k+1+(showA items).length+1,[]⟩]):=rfl
    obtain ⟨m,g1,g2⟩:=showA_run items hi (k+1) 93 (.inr (.inl rfl)) [] _ _ hz
    have e2:stepL .out k 91=([⟨2,false,k,k+1,[]⟩],0,.out):=rfl
    refine ⟨_,_,runL_cons e2 g2,.inl ⟨rfl,?_⟩⟩
    unfold TokT
    exact .inl ⟨rfl,rfl,rfl,_,m,_,rfl,⟨rfl,rfl⟩,⟨rfl,rfl⟩,g1⟩
   ·have e:showT (.mk 5 fr to [] items names)=123 :: (showO items names++[125]):=by unfold showT;rfl
    rw[e]
    have hz:runL .out [125] (k+1+(showO items names).length)=some (.out,[⟨5,false,k+1+(showO items names).length,k+1+(showO items names).length+1,[]⟩]):=rfl
    obtain ⟨m,g1,g2⟩:=showO_run items names hi hn hs (k+1) 125 (.inr (.inr (.inl rfl))) [] _ _ hz
    have e2:stepL .out k 123=([⟨4,false,k,k+1,[]⟩],0,.out):=rfl
    refine ⟨_,_,runL_cons e2 g2,.inl ⟨rfl,?_⟩⟩
    unfold TokT
    exact .inr (.inl ⟨rfl,rfl,_,m,_,rfl,⟨rfl,rfl⟩,⟨rfl,rfl⟩,g1⟩)
   ·rcases h with ⟨rfl,hb⟩|⟨rfl,c,t,a,rfl,h9,ha,hw⟩|⟨rfl,h⟩|⟨rfl,rfl⟩
    ·have e:showT (.mk 3 fr to tx [] [])=strT tx:=by unfold showT;rfl
     obtain ⟨a,b,g1,g2,g3,g4,g5⟩:=strT_run tx hb k
     rw[e]
     exact ⟨_,_,g1,.inl ⟨rfl,scalar_tok 3 8 fr to tx a b (by decide) g2 (by rw[g3];decide) g4 (by unfold scalarK;rw[g5];rfl)⟩⟩
    ·have e:showT (.mk 2 fr to (c :: t) [] [])=c :: t:=by unfold showT;rfl
     rw[e]
     have e2:stepL .out k c=([⟨9,true,k,k,[]⟩],0,.num (nxI 0 c.toNat) k [c]):=by
       show outL k c=_
       unfold outL
       rw[h9]
       rfl
     refine ⟨_,_,runL_cons e2 (num_run t (nxI 0 c.toNat) k (k+1) [c] a ha),.inr ⟨a,k,[c]++t,rfl,hw,fun j => ?_⟩⟩
     exact scalar_tok 2 9 fr to (c :: t) ⟨9,true,k,k,[]⟩ ⟨9,false,k,j,[c]++t⟩ (by decide) rfl (show (9:Int)≠0 by decide) rfl rfl
    ·have e:showT (.mk 1 fr to tx [] [])=tx:=by unfold showT;rfl
     rw[e]
     obtain ⟨a,b,g1,g2,g3,g4,g5⟩:=word_run tx (h.imp id .inl) k
     refine ⟨_,_,g1,.inl ⟨rfl,scalar_tok 1 10 fr to tx a b (by decide) g2 (by rw[g3];decide) g4 ?_⟩⟩
     unfold scalarK
     rw[g5,g4]
     rcases h with rfl|rfl<;>rfl
    ·have e:showT (.mk 0 fr to lN [] [])=lN:=by unfold showT;rfl
     rw[e]
     obtain ⟨a,b,g1,g2,g3,g4,g5⟩:=word_run lN (.inr (.inr rfl)) k
     refine ⟨_,_,g1,.inl ⟨rfl,scalar_tok 0 10 fr to lN a b (by decide) g2 (by rw[g3];decide) g4 ?_⟩⟩
     unfold scalarK
     rw[g5,g4]
     rfl
theorem showA_run:∀ (r:List Tree),GoodL r → ∀ (k:Nat) (c:UInt8),sepB c → ∀ (rest:List UInt8) (st':LSt) (b:List Tok),runL .out (c :: rest) (k+(showA r).length)=some (st',b) → ∃ m,TokA r m∧runL .out (showA r++c :: rest) k=some (st',m++b)
 | [],h,k,c,hc,rest,st',b,hr=>by
   unfold showA at hr ⊢
   exact ⟨[],by unfold TokA;rfl,hr⟩
 | t :: r,h,k,c,hc,rest,st',b,hr=>by
   unfold GoodL at h
   obtain ⟨st,ts,g1,g2⟩:=show_run t h.1 k
   cases r with
   | nil =>
     have e:showA [t]=showT t:=by unfold showA;simp
     rw[e] at hr ⊢
     obtain ⟨ts1,v1,v2⟩:=val_then t _ st ts k g1 g2 c hc rest st' b hr
     exact ⟨ts1,by unfold TokA;exact ⟨ts1,[],(List.append_nil _).symm,v1,.inl ⟨rfl,rfl⟩⟩,v2⟩
   | cons u r =>
     have e:showA (t :: u :: r)=showT t++44 :: showA (u :: r):=by (conv=>lhs;unfold showA);rfl
     rw[e] at hr ⊢
     have hl:k+(showT t++44 :: showA (u :: r)).length=k+(showT t).length+1+(showA (u :: r)).length:=by rw[List.length_append,List.length_cons];omega
     rw[hl] at hr
     obtain ⟨m,w1,w2⟩:=showA_run (u :: r) h.2 (k+(showT t).length+1) c hc rest st' b hr
     have e2:stepL .out (k+(showT t).length) 44=([⟨6,false,k+(showT t).length,k+(showT t).length+1,[]⟩],0,.out):=rfl
     obtain ⟨ts1,v1,v2⟩:=val_then t _ st ts k g1 g2 44 (.inl rfl) (showA (u :: r)++c :: rest) st' _ (runL_cons e2 w2)
     refine ⟨ts1++⟨6,false,k+(showT t).length,k+(showT t).length+1,[]⟩ :: m,?_,?_⟩
     ·unfold TokA
      exact ⟨ts1,_,rfl,v1,.inr ⟨(by intro h;cases h),_,m,rfl,⟨rfl,rfl⟩,w1⟩⟩
     ·rw[List.append_assoc,List.cons_append,v2]
      simp
theorem showO_run:∀ (r:List Tree) (names:List (List UInt8)),GoodL r→names.length=r.length→(∀ s∈names,badU s = -1) → ∀ (k:Nat) (c:UInt8),sepB c → ∀ (rest:List UInt8) (st':LSt) (b:List Tok),runL .out (c :: rest) (k+(showO r names).length)=some (st',b) → ∃ m,TokO r names m∧runL .out (showO r names++c :: rest) k=some (st',m++b)
 | [],names,h,hn,hs,k,c,hc,rest,st',b,hr=>by
   unfold showO at hr ⊢
   exact ⟨[],by unfold TokO;exact ⟨List.length_eq_zero_iff.1 hn,rfl⟩,hr⟩
 | t :: r, names,h,hn,hs,k,c,hc,rest,st',b,hr=>by
   unfold GoodL at h
   cases names with
   | nil=>cases hn
   | cons s ns =>
     have hn:ns.length=r.length:=by simpa using hn
     obtain ⟨x,y,x1,x2,x3,x4,x5⟩:=strT_run s (hs s List.mem_cons_self) k
     have hs':∀ s∈ns,badU s = -1:=fun s h=>hs s (List.mem_cons_of_mem _ h)
     obtain ⟨st,ts,g1,g2⟩:=show_run t h.1 (k+(strT s).length+1)
     have e2:stepL .out (k+(strT s).length) 58=([⟨7,false,k+(strT s).length,k+(strT s).length+1,[]⟩],0,.out):=rfl
     cases r with
     | nil =>
       obtain rfl:ns=[]:=List.length_eq_zero_iff.1 hn
       have e:showO [t] [s]=strT s++58 :: showT t:=by unfold showO;simp
       rw[e] at hr ⊢
       have hl:k+(strT s++58 :: showT t).length=k+(strT s).length+1+(showT t).length:=by rw[List.length_append,List.length_cons];omega
       rw[hl] at hr
       obtain ⟨ts1,v1,v2⟩:=val_then t _ st ts _ g1 g2 c hc rest st' b hr
       have:=runL_app (strT s) x1 (runL_cons e2 v2)
       refine ⟨x :: y :: ⟨7,false,k+(strT s).length,k+(strT s).length+1,[]⟩ :: (ts1++[]),?_,?_⟩
       ·unfold TokO
        exact ⟨s,[],x,y,_,ts1,[],rfl,rfl,x2,x3,x4,⟨rfl,rfl⟩,v1,.inl ⟨rfl,rfl,rfl⟩⟩
       ·rw[List.append_assoc,List.cons_append,this]
        simp
     | cons u r =>
       have e:showO (t :: u :: r) (s :: ns)=strT s++58 :: (showT t++44 :: showO (u :: r) ns):=by (conv=>lhs;unfold showO);rfl
       rw[e] at hr ⊢
       have hl:k+(strT s++58 :: (showT t++44 :: showO (u :: r) ns)).length=k+(strT s).length+1+(showT t).length+1+(showO (u :: r) ns).length:=by simp only [List.length_append,List.length_cons];omega
       rw[hl] at hr
       obtain ⟨m,w1,w2⟩:=showO_run (u :: r) ns h.2 hn hs' _ c hc rest st' b hr
       have e3:stepL .out (k+(strT s).length+1+(showT t).length) 44=([⟨6,false,k+(strT s).length+1+(showT t).length,k+(strT s).length+1+(showT t).length+1,[]⟩],0,.out):=rfl
       obtain ⟨ts1,v1,v2⟩:=val_then t _ st ts _ g1 g2 44 (.inl rfl) (showO (u :: r) ns++c :: rest) st' _ (runL_cons e3 w2)
       have:=runL_app (strT s) x1 (runL_cons e2 v2)
       refine ⟨x :: y :: ⟨7,false,k+(strT s).length,k+(strT s).length+1,[]⟩ :: (ts1++⟨6,false,k+(strT s).length+1+(showT t).length,k+(strT s).length+1+(showT t).length+1,[]⟩ :: m),?_,?_⟩
       ·unfold TokO
        exact ⟨s,ns,x,y,_,ts1,_,rfl,rfl,x2,x3,x4,⟨rfl,rfl⟩,v1,.inr ⟨(by intro h;cases h),_,m,rfl,⟨rfl,rfl⟩,w1⟩⟩
       ·have e4:(strT s++58 :: (showT t++44 :: showO (u :: r) ns))++c :: rest=strT s++58 :: (showT t++44 :: (showO (u :: r) ns++c :: rest)):=by simp
        rw[e4,this]
        simp
end
end
end Go.Proofs.YtbpilcklglhloaaGreatDoor
