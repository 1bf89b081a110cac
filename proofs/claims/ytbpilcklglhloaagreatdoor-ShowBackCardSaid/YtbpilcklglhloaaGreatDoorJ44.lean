/- Lemmas. -/
import Derived.Test.YtbpilcklglhloaaGreatDoorJ38
import Derived.Test.YtbpilcklglhloaaGreatDoorJ42
set_option maxRecDepth 100000
set_option maxHeartbeats 8000000
set_option linter.unusedVariables false
namespace Go.Proofs.YtbpilcklglhloaaGreatDoor
open Go.Lib (hid)
section
open Go.RowKit
def manyLe (n:Nst)(k:Nat):Prop:=∀ o∈n.op,o.many≤k
theorem takeN_many (n:Nst) (t:Tok) (k:Nat) (h:manyLe n k):manyLe (takeN n t).1 (k+1):=by
 have same:∀ l:List Opn,(∀ o∈l,o.many≤k) → ∀ o∈l,o.many≤k+1:=fun l h o ho=>Nat.le_succ_of_le (h o ho)
 have more:∀ l:List Opn,(∀ o∈l,o.many≤k) → ∀ o∈moreO l,o.many≤k+1:=fun l h o ho=>by
   cases l with
   | nil=>cases ho
   | cons q r =>
     rcases List.mem_cons.1 ho with rfl|ho
     ·have:=h q (by simp);show q.many+1≤k+1;omega
     ·exact Nat.le_succ_of_le (h o (by simp[ho]))
 have name:∀ (s:List UInt8) (l:List Opn),(∀ o∈l,o.many≤k) → ∀ o∈nameO s l,o.many≤k+1:=fun s l h o ho=>by
   cases l with
   | nil=>cases ho
   | cons q r =>
     rcases List.mem_cons.1 ho with rfl|ho
     ·exact Nat.le_succ_of_le (h q (by simp))
     ·exact Nat.le_succ_of_le (h o (by simp[ho]))
 unfold takeN
 split
 ·obtain ⟨most,op,may,begun,came⟩:=n
  have h:∀ o∈op,o.many≤k:=h
  have tail:∀ (o:Opn) (r:List Opn),op=o :: r → ∀ x∈r,x.many≤k:=fun o r e x hx=>h x (by rw[e];simp[hx])
  have push:∀ x:Opn,x.many=0 → ∀ o∈x :: op,o.many≤k+1:=fun x hx o ho=>by
    rcases List.mem_cons.1 ho with rfl|ho
    ·omega
    ·exact same op h o ho
  unfold takeO
  cases may<;>cases op<;>simp only []<;>(repeat' split)<;>first
    | exact same _ h
    | exact push _ rfl
    | exact more _ (tail _ _ rfl)
 ·split
  ·exact name _ _ h
  ·exact more _ h
theorem takeN_most (n:Nst) (t:Tok):(takeN n t).1.most=n.most:=by
 unfold takeN
 split
 ·obtain ⟨most,op,may,begun,came⟩:=n
  unfold takeO
  cases may<;>cases op<;>simp only []<;>(repeat' split)<;>rfl
 ·split<;>rfl
end
section
open Go.RowKit
structure PB (n:Nst) (bl:Bld):Prop where
 j:JN n
 cn:cnt n=bl.op.length
 rt:bl.root≠none→n.may.isNothing=true
 nt:n.may.isNothing=true→bl.root≠none
theorem PB.start (d:Int):PB (newN d) ⟨[],none⟩:=⟨⟨fun h=>absurd rfl h,fun h=>(by cases h),rfl⟩,rfl,fun h=>absurd rfl h,fun h=>(by cases h)⟩
theorem nothing_fault (n:Nst) (t:Tok) (hJ:JN n) (h:n.may.isNothing=true):(takeN n t).2.2≠0:=by
 have hb:n.begun=0:=by
   by_cases hb:n.begun=0
   ·exact hb
   ·rcases hJ.beg hb with h1|h1<;>(cases hm:n.may<;>rw[hm] at h h1<;>first|(cases h;done)|(cases h1;done))
 have e:takeN n t=takeO n t:=by unfold takeN;rw[if_pos hb]
 rw[e]
 unfold takeO
 cases hm:n.may<;>rw[hm] at h<;>first|(cases h;done)|(show (9:Int)≠0;decide)
theorem PB.tok {n : Nst} {bl : Bld} (h:PB n bl) (t:Tok) (hk:t.begun=true→t.kind≠0) (hf:(takeN n t).2.2=0) :
   PB (takeN n t).1 (bldA bl (takeN n t).2.1)∧bl.root=none ∧ ∀ e∈(takeN n t).2.1,e.kind=1∨e.kind=2:=by
 have hn:n.may.isNothing=false:=by
   cases hh:n.may.isNothing
   ·rfl
   ·exact absurd hf (nothing_fault n t h.j hh)
 have hr:bl.root=none:=by
   cases hh:bl.root with
   | none=>rfl
   | some u=>have:=h.rt (by rw[hh];simp);rw[hn] at this;cases this
 have D:=tok_does n t h.j hk hf
 obtain ⟨op,root⟩:=bl
 simp only at hr
 subst hr
 have hcn:cnt n=op.length:=h.cn
 rcases D.evs with ⟨e1,e2,e3⟩|⟨v,s,e1,e2,e3,e4,e5⟩|⟨v,f,s,x,e1,e2,e3,e4⟩
 ·rw[e1]
  exact ⟨⟨D.j,by rw[e2];exact hcn,fun h=>absurd rfl h,fun h=>by rw[e3] at h;cases h⟩,rfl,fun e he=>by cases he⟩
 ·rw [e1]
  refine ⟨⟨D.j,?_,fun h=>absurd rfl h,fun h=>by rw[e5] at h;cases h⟩,rfl,fun e he => ?_⟩
  ·rw[e2,hcn]
   show op.length+1=(bldE ⟨op,none⟩ ⟨1,v,t.fr,0,s,[]⟩).op.length
   unfold bldE
   rw[if_pos rfl]
   rfl
  ·obtain rfl:e=_:=by simpa using he
   exact .inl rfl
 ·rw [e1]
  have hz:(⟨2,v,f,t.to,s,x⟩:Evt).kind≠1:=by show (2:Int)≠1;decide
  have cz:(takeN n t).1.may.isNothing=true→cnt (takeN n t).1=0:=fun hh=>by
    unfold cnt
    rw[D.j.noth hh,e3]
    simp
  refine ⟨?_, rfl, fun e he => by obtain rfl:e=_:=by simpa using he
                                  exact .inr rfl⟩
  match op,hcn with
  | [],hcn=>simp at hcn;omega
  | [(y,sy)],hcn =>
    have e:bldA ⟨[(y,sy)],none⟩ [⟨2,v,f,t.to,s,x⟩]=⟨[],some (finT ⟨2,v,f,t.to,s,x⟩ y)⟩:=bldE_last y sy none _ hz
    rw[e]
    have hc0:cnt (takeN n t).1=0:=by simp at hcn;omega
    have hop:(takeN n t).1.op=[]:=List.eq_nil_of_length_eq_zero (by unfold cnt at hc0;omega)
    exact ⟨D.j,by rw[hc0];rfl,fun _=>e4 hop,fun _=>by simp⟩
  | (y, sy) :: q :: r,hcn =>
    have hlen:(bldA ⟨(y,sy) :: q :: r,none⟩ [⟨2,v,f,t.to,s,x⟩]).op.length=r.length+1∧(bldA ⟨(y,sy) :: q :: r,none⟩ [⟨2,v,f,t.to,s,x⟩]).root=none:=by
      obtain ⟨p,ps⟩:=q
      obtain ⟨k,g,o,z,i,m⟩:=y
      exact ⟨rfl,rfl⟩
    have hc1:cnt (takeN n t).1=r.length+1:=by simp at hcn;omega
    exact ⟨D.j,by rw[hlen.1,hc1],fun h=>absurd hlen.2 h,fun h=>by have:=cz h;omega⟩
structure CI (n:Nst):Prop where
 no:n.came=false→n.may=.value∧n.op=[]∧n.begun=0
 yes:n.came=true→n.may=.value→n.op=[]→n.begun≠0
 op:n.may≠.value→n.may.isNothing=false→n.may.isBad=false→n.op≠[]
theorem CI.start (d:Int):CI (newN d):=⟨fun _=>⟨rfl,rfl,rfl⟩,fun h=>(by cases h),fun h=>absurd rfl h⟩
theorem name_ne {s:List UInt8}{l:List Opn}(h:l≠[]):nameO s l≠[]:=by cases l<;>first|exact absurd rfl h|simp[nameO]
theorem ended_CI (most:Nat) (op:List Opn) (may:May) (b:Int):CI { endedN (⟨most,op,may,b,true⟩:Nst) with begun:=0,came:=true }:=by
 cases op with
 | nil=>exact ⟨fun h=>(by cases h),fun _ h=>(by cases h),fun _ h=>(by cases h)⟩
 | cons o r=>exact ⟨fun h=>(by cases h),fun _ h=>(by cases h),fun _ _ _=>by simp[endedN,moreO]⟩
theorem CI.tok {n:Nst} (h:CI n) (t:Tok) (hk:t.begun=true→t.kind≠0) (hf:(takeN n t).2.2=0):CI (takeN n t).1:=by
 obtain ⟨most,op,may,begun,came⟩:=n
 obtain ⟨kd,bg,fr,tt,tx⟩:=t
 obtain ⟨h1,h2,h3⟩:=h
 simp only at h1 h2 h3 hk
 unfold takeN at hf ⊢
 simp only at hf ⊢
 by_cases hb:begun=0
 ·rw [if_pos hb] at hf ⊢
  subst hb
  have cl:∀ (o:Opn) (r:List Opn) (m:May),CI { endedN (⟨most,r,m,0,came⟩:Nst) with came:=true }:=fun o r m=>by
    have:=ended_CI most r m 0
    cases r<;>exact this
  cases may<;>cases op<;>cases bg<;>unfold takeO at hf ⊢ <;> simp only [] at hf ⊢ <;> revert hf<;>(repeat' split)<;>intro hf<;>first
    | (exact absurd hf (by show (8:Int)≠0;decide))
    | (exact absurd hf (by show (9:Int)≠0;decide))
    | (exact absurd hf (by show (12:Int)≠0;decide))
    | (exact absurd hf (by show (14:Int)≠0;decide))
    | exact cl ⟨false,0,⟨false,[],0⟩,0,[]⟩ _ _
    | (refine absurd rfl (h3 ?_ rfl rfl);intro e;cases e;done)
    | (refine ⟨fun h=>(by cases h),fun _ _ _ => ?_,fun _ _ _ => ?_⟩<;>first
        | (exact hk rfl)
        | (show (8:Int)≠0;decide)
        | (exact List.cons_ne_nil _ _)
        | (rename_i hq;cases hq;done)
        | (simp_all;done))
 ·rw [if_neg hb] at hf ⊢
  have hc:came=true:=by
    cases came
    ·exact absurd (h1 rfl).2.2 hb
    ·rfl
  subst hc
  by_cases hn:may.nam=true
  ·rw[if_pos hn]
   have hop:op≠[]:=h3 (by intro e;subst e;cases hn) (by cases may<;>first|rfl|(cases hn;done)) (by cases may<;>first|rfl|(cases hn;done))
   exact ⟨fun h=>(by cases h),fun _ h=>(by cases h),fun _ _ _=>name_ne hop⟩
  ·rw[if_neg hn]
   have:=ended_CI most op may begun
   cases op<;>exact this
def faultAt (n:Nst):List Tok→Nat
 | []=>0
 | t :: ts=>if (takeN n t).2.2≠0 then t.fr else faultAt (takeN n t).1 ts
end
section
open Go.RowKit
theorem bad_broken (m:May):m.isBad=m.isBroken:=by cases m<;>rfl
theorem code_zero (m:May)(z:Bool):(codeM m z==0)=true↔m=.value∧z=true:=by cases m<;>cases z<;>simp[codeM]
theorem NIs.cells {w:World} {b:Nat} {F:Nat→Prop} {n:Nst} (h:NIs w b F n) (hx:n.may.isBroken=false):w.cell? ⟨b,1,none⟩=some (.int .i64 (codeM n.may n.op.isEmpty))∧w.cell? ⟨b,2,none⟩=some (.int .i64 n.begun):=by
 rcases h with ⟨h1,_⟩|⟨_,lo,_,_,h⟩
 ·rw[hx] at h1;cases h1
 ·exact ⟨h.c1,h.c2⟩
theorem close_nst {w:World} {b:Nat} {F:Nat→Prop} {n:Nst} (h:NIs w b F n) (hx:n.may.isBroken=false) (hc:CI n) :
   Calls Tryz.prog 23 #[.pointer (some ⟨b,0,none⟩)] w fun e w'=>e=.returned (.int .i64 (closeN n))∧w=w':=by
 obtain ⟨c1,c2⟩:=h.cells hx
 have HD:=hid (done_any b _ w c1)
 have g8:=code_eight n.may n.op.isEmpty hx
 have g7:=code_not n.may n.op.isEmpty
 have hb:n.may.isBad=false:=by rw[bad_broken];exact hx
 have g0:(codeM n.may n.op.isEmpty==0)=true↔n.may=.value∧n.op=[]:=by rw[code_zero,List.isEmpty_iff]
 generalize hy:codeM n.may n.op.isEmpty=y at *
 clear h hy
 cases hn:n.may.isNothing with
 | true =>
   rw[hn] at g7
   rw[g7] at HD
   have e:closeN n=1:=by unfold closeN;rw[hb,hn];rfl
   rw[e]
   clear g0 hc hb hn e
   go_enter Tryz.func23,Tryz.ntmps23
   go_wp2_with (go_at_call 19;refine HD.out.mono ?_;rintro e w' ⟨rfl,rfl⟩)
   go_ret
   exact ⟨rfl,rfl⟩
 | false =>
   rw[hn] at g7
   rw[g7] at HD
   cases hcm:n.came with
   | false =>
     obtain ⟨h1,h2,h3⟩:=hc.no hcm
     have e:closeN n=11:=by unfold closeN;rw[hb,hn,hcm];rfl
     have e0:(y==0)=true:=g0.2 ⟨h1,h2⟩
     have eb:(n.begun==0)=true:=by rw[h3];rfl
     rw[e]
     clear g0 hc hb hn e h1 h2 h3 hcm
     go_enter Tryz.func23,Tryz.ntmps23
     go_wp2_with (go_at_call 19;refine HD.out.mono ?_;rintro e w' ⟨rfl,rfl⟩)
     go_ret
     exact ⟨rfl,rfl⟩
   | true =>
     have e:closeN n=10:=by unfold closeN;rw[hb,hn,hcm];rfl
     rw[e]
     cases e0:(y==0) with
     | true =>
       obtain ⟨h1,h2⟩:=g0.1 e0
       have eb:(n.begun==0)=false:=beq_eq_false_iff_ne.2 (hc.yes hcm h1 h2)
       clear g0 hc hb hn e h1 h2 hcm
       go_enter Tryz.func23,Tryz.ntmps23
       go_wp2_with (go_at_call 19;refine HD.out.mono ?_;rintro e w' ⟨rfl,rfl⟩)
       go_ret
       exact ⟨rfl,rfl⟩
     | false =>
       clear g0 hc hb hn e hcm
       go_enter Tryz.func23,Tryz.ntmps23
       go_wp2_with (go_at_call 19;refine HD.out.mono ?_;rintro e w' ⟨rfl,rfl⟩)
       go_ret
       exact ⟨rfl,rfl⟩
structure Mach (w:World) (base nb mb nx:Nat) (FN FM:Nat→Prop) (n:Nst) (bl:Bld):Prop where
 on:Own w nx 50 #[.pointer (some ⟨nb,0,none⟩)]
 ns:NIs w nb FN n
 bs:BIs w mb FM bl
 apart:∀ k,FN k→¬ FM k
 bnd:∀ k,FN k∨FM k→base≤k∧k<w.heap.size∧k≠nx
theorem Mach.move {w w':World} {base nb mb nx:Nat} {FN FM T:Nat→Prop} {n:Nst} {bl:Bld} (h:Mach w base nb mb nx FN FM n bl) (ht:Touch T w w') (h1:∀ k,FN k∨FM k→¬ T k) (h2:¬ T nx):Mach w' base nb mb nx FN FM n bl :=
 ⟨ht.own h.on h2,h.ns.move ht (fun k _ hk=>h1 k (.inl hk)),h.bs.move ht (fun k _ hk=>h1 k (.inr hk)),h.apart,fun k hk=>by
   obtain ⟨a,b,c⟩:=h.bnd k hk
   exact ⟨a,Nat.lt_of_lt_of_le b ht.size,c⟩⟩
theorem Mach.nest {w w':World} {base nb mb nx:Nat} {FN FM:Nat→Prop} {n n':Nst} {bl:Bld} (h:Mach w base nb mb nx FN FM n bl) (hb:base≤w.heap.size) (ht:Touch FN w w') (hn:NIs w' nb (fun j=>FN j∨w.heap.size≤j) n') :
   Mach w' base nb mb nx (fun j=>(FN j∨w.heap.size≤j)∧j<w'.heap.size) FM n' bl:=by
 have hx:¬ FN nx:=fun e=>(h.bnd nx (.inl e)).2.2 rfl
 refine ⟨ht.own h.on hx,hn.mono (fun j hj h=>⟨h,hj⟩),h.bs.move ht (fun k _ hk hn=>h.apart k hn hk),fun k hk hm => ?_,fun k hk => ?_⟩
 ·rcases hk.1 with h1|h1
  ·exact h.apart k h1 hm
  ·have:=(h.bnd k (.inr hm)).2.1;omega
 ·rcases hk with ⟨h1|h1,h2⟩|h1
  ·obtain ⟨a,b,c⟩:=h.bnd k (.inl h1)
   exact ⟨a,h2,c⟩
  ·exact ⟨by omega,h2,fun e=>by have:=h.on.inside;omega⟩
  ·obtain ⟨a,b,c⟩:=h.bnd k (.inr h1)
   exact ⟨a,Nat.lt_of_lt_of_le b ht.size,c⟩
theorem Mach.made {w w':World} {base nb mb nx:Nat} {FN FM:Nat→Prop} {n:Nst} {bl bl':Bld} (h:Mach w base nb mb nx FN FM n bl) (hb:base≤w.heap.size) (ht:Touch FM w w') (hm:BIs w' mb (fun j=>FM j∨w.heap.size≤j) bl') :
   Mach w' base nb mb nx FN (fun j=>(FM j∨w.heap.size≤j)∧j<w'.heap.size) n bl':=by
 have hx:¬ FM nx:=fun e=>(h.bnd nx (.inr e)).2.2 rfl
 refine ⟨ht.own h.on hx,h.ns.move ht (fun k _ hk hn=>h.apart k hk hn),hm.cut,fun k hk hm => ?_,fun k hk => ?_⟩
 ·rcases hm.1 with h1|h1
  ·exact h.apart k hk h1
  ·have:=(h.bnd k (.inl hk)).2.1;omega
 ·rcases hk with h1|⟨h1|h1,h2⟩
  ·obtain ⟨a,b,c⟩:=h.bnd k (.inl h1)
   exact ⟨a,Nat.lt_of_lt_of_le b ht.size,c⟩
  ·obtain ⟨a,b,c⟩:=h.bnd k (.inr h1)
   exact ⟨a,h2,c⟩
  ·exact ⟨by omega,h2,fun e=>by have:=h.on.inside;omega⟩
structure AtPt (l:List UInt8) (W wr:World) (base nb mb nx:Nat) (n0:Nst) (bl0:Bld) (ts:List Tok) (sE:Nat×Option Nat) (pE:Option (Int×Nat)) (m0 z0:Nat) (FN0 FM0:Nat→Prop) (j:Nat) (n:Nst) (bl:Bld) (s:Nat×Option Nat) (p:Option (Int×Nat)) (es0:List Evt) (FN FM:Nat→Prop):Prop where
 le:j≤ts.length
 mach:Mach wr base nb mb nx FN FM n bl
 inv:InvN n s p
 sp:Spans l (ts.drop j) s sE
 wf:WfTo (ts.drop j) p pE
 pb:PB n bl
 ci:CI n
 many:manyLe n (m0+j)
 most:n.most=n0.most
 size:szB bl≤z0+j
 bl_:bl=bldA bl0 es0
 all:takeAll n0 ts=((takeAll n (ts.drop j)).1,es0++(takeAll n (ts.drop j)).2.1,(takeAll n (ts.drop j)).2.2)
 flt:faultAt n0 ts=faultAt n (ts.drop j)
 out:∀ k,FN k∨FM k→FN0 k∨FM0 k∨W.heap.size<k
 touch:Touch (fun k=>FN0 k∨FM0 k) W wr
 res:Own wr W.heap.size 29 #[.int .i64 0,.int .i64 0]
def RelPt (l:List UInt8) (W:World) (base nb mb nx:Nat) (n0:Nst) (bl0:Bld) (ts:List Tok) (sE:Nat×Option Nat) (pE:Option (Int×Nat)) (m0 z0:Nat) (FN0 FM0:Nat→Prop) (vi:Value) (wr:World):Prop :=
 ∃ (j:Nat) (n:Nst) (bl:Bld) (s:Nat×Option Nat) (p:Option (Int×Nat)) (es0:List Evt) (FN FM:Nat→Prop),vi=.int .i64 j∧AtPt l W wr base nb mb nx n0 bl0 ts sE pE m0 z0 FN0 FM0 j n bl s p es0 FN FM
def ClEnd (w:World) (base nb mb nx:Nat) (FN FM:Nat→Prop) (n:Nst) (bl:Bld) (ts:List Tok) (kind:Int) (k:Nat) (e:Ending) (w':World):Prop :=
 ∃ (kd:Int) (at_:Nat) (FN' FM':Nat→Prop),e=.returned (.agg #[.int .i64 kd,.int .i64 at_])∧((takeAll n ts).2.2≠0→kd=(takeAll n ts).2.2∧at_=faultAt n ts)∧((takeAll n ts).2.2=0→kd=(if kind=8∧(takeAll n ts).1.may.isNothing=true then 9 else kind)∧at_=k∧PB (takeAll n ts).1 (bldA bl (takeAll n ts).2.1)∧CI (takeAll n ts).1) ∧
   Mach w' base nb mb nx FN' FM' (takeAll n ts).1 (bldA bl (takeAll n ts).2.1)∧(∀ j,FN' j∨FM' j→FN j∨FM j∨w.heap.size≤j)∧Touch (fun k=>FN k∨FM k) w w'∧szB (bldA bl (takeAll n ts).2.1)≤szB bl+ts.length
end
section
open Go.RowKit
theorem verd_size:(Tryz.prog.info? 29).map (·.size)=some 2:=by kernel_rfl
theorem spans_cons {l:List UInt8}{t:Tok}{ts:List Tok}{s s':Nat×Option Nat}(h:Spans l (t :: ts) s s'):okTok l s t∧Spans l ts (nextTok s t) s':=h
theorem wf_cons {t:Tok}{ts:List Tok}{p q:Option (Int×Nat)}(h:WfTo (t :: ts) p q):okW p t∧WfTo ts (nextW t) q:=h
theorem takeAll_cons (n:Nst)(t:Tok)(ts:List Tok):takeAll n (t :: ts)=if (takeN n t).2.2≠0 then takeN n t else ((takeAll (takeN n t).1 ts).1,(takeN n t).2.1++(takeAll (takeN n t).1 ts).2.1,(takeAll (takeN n t).1 ts).2.2):=rfl
theorem TRow.at {w:World} {B:Nat} {A:Option Addr} {m c:Nat} {ts:List Tok} (h:TRow w B (.slice A m c) ts) (h0:0<ts.length):∃ bt o:Nat,A=some ⟨bt,o,none⟩∧(Value.slice A m c).ownBlock=some bt∧bt<w.heap.size ∧ ∀ (i:Nat) (t:Tok),ts[i]?=some t →
   w.cell? ⟨bt,o+i*5,none⟩=some (.int .i64 t.kind)∧w.cell? ⟨bt,o+i*5+1,none⟩=some (.bool t.begun)∧w.cell? ⟨bt,o+i*5+2,none⟩=some (.int .i64 t.fr)∧w.cell? ⟨bt,o+i*5+3,none⟩=some (.int .i64 t.to)∧w.cell? ⟨bt,o+i*5+4,none⟩=some (.string ⟨t.text.toArray⟩):=by
 obtain ⟨A',c',e,_,_,hg⟩:=h.form
 injection e with e1 e2 e3
 subst e1 e2 e3
 obtain ⟨g,rfl,_,hlt⟩:=hg h0
 obtain ⟨b,o,e,hb,hc⟩:=h.rd.2 h0
 injection e with e
 injection e with e1 e2
 subst e1 e2
 refine ⟨g,0,rfl,rfl,hlt,fun i t ht => ?_⟩
 have hh:∀ j u,j<5→(tokCells t)[j]?=some u→w.cell? ⟨g,0+i*5+j,none⟩=some u:=fun j u hj hu=>by
   rw[Nat.add_assoc]
   exact hc _ _ ((tokAll_at ts i t ht j hj).trans hu)
 exact ⟨hh 0 _ (by decide) rfl,hh 1 _ (by decide) rfl,hh 2 _ (by decide) rfl,hh 3 _ (by decide) rfl,hh 4 _ (by decide) rfl⟩
theorem bldA_one (bl:Bld) (es:List Evt) (h:es.length≤1):szB (bldA bl es)≤szB bl+1:=by
 match es,h with
 | [],_=>exact Nat.le_succ _
 | [e],_=>exact bldE_size bl e
theorem AtPt.next {l:List UInt8} {W wr w6:World} {base nb mb nx:Nat} {n0:Nst} {bl0:Bld} {ts:List Tok} {sE:Nat×Option Nat} {pE:Option (Int×Nat)} {m0 z0:Nat} {FN0 FM0:Nat→Prop} {j:Nat} {n:Nst} {bl:Bld} {s:Nat×Option Nat} {p:Option (Int×Nat)} {es0:List Evt} {FN FM FN' FM':Nat→Prop}
   (h:AtPt l W wr base nb mb nx n0 bl0 ts sE pE m0 z0 FN0 FM0 j n bl s p es0 FN FM) (hlt:j<ts.length) (hF0:∀ k,FN0 k∨FM0 k→k<W.heap.size) (hf:(takeN n ts[j]).2.2=0) (M:Mach w6 base nb mb nx FN' FM' (takeN n ts[j]).1 (bldA bl (takeN n ts[j]).2.1)) (ho:∀ k,FN' k∨FM' k→FN k∨FM k∨wr.heap.size≤k) (ht:Touch (fun k=>FN k∨FM k) wr w6) (hW:W.heap.size<wr.heap.size) :
   AtPt l W w6 base nb mb nx n0 bl0 ts sE pE m0 z0 FN0 FM0 (j+1) (takeN n ts[j]).1 (bldA bl (takeN n ts[j]).2.1) (nextTok s ts[j]) (nextW ts[j]) (es0++(takeN n ts[j]).2.1) FN' FM':=by
 have e:=List.drop_eq_getElem_cons hlt
 have hsp:=h.sp
 have hwf:=h.wf
 have hall:=h.all
 have hflt:=h.flt
 rw[e] at hsp hwf hall hflt
 obtain ⟨a1,a2⟩:=spans_cons hsp
 obtain ⟨b1,b2⟩:=wf_cons hwf
 have hk:ts[j].begun=true→ts[j].kind≠0:=fun hb hk=>by
   unfold okW at b1
   cases p with
   | none=>rw[hb] at b1;have b1:8≤ts[j].kind∧ts[j].kind≤10:=b1;omega
   | some q=>have b1:=b1.1;rw[hb] at b1;cases b1
 have hpt:=h.pb.tok ts[j] hk hf
 refine ⟨hlt,M,(takeN_ok l n s p ts[j] h.inv a1 b1 hf).1,a2,b2,hpt.1,h.ci.tok ts[j] hk hf,takeN_many n ts[j] (m0+j) h.many,(takeN_most n ts[j]).trans h.most,?_,by rw[h.bl_,bldA_app],?_,?_,fun k hk => ?_,?_,?_⟩
 ·have:=bldA_one bl (takeN n ts[j]).2.1 (takeN_one n ts[j]).2
  have:=h.size
  omega
 ·rw[hall,takeAll_cons,if_neg (fun hh=>hh hf),List.append_assoc]
 ·rw[hflt]
  show (if (takeN n ts[j]).2.2≠0 then ts[j].fr else faultAt (takeN n ts[j]).1 (ts.drop (j+1)))=_
  rw[if_neg (fun hh=>hh hf)]
 ·rcases ho k hk with h1|h1|h1
  ·exact h.out k (.inl h1)
  ·exact h.out k (.inr h1)
  ·exact .inr (.inr (by omega))
 ·refine h.touch.trans ht (fun k hk h1 => ?_)
  rcases h.out k h1 with h2|h2|h2
  ·exact .inl h2
  ·exact .inr h2
  ·omega
 ·refine ht.own h.res (fun hh => ?_)
  rcases h.out _ hh with h2|h2|h2
  ·have:=hF0 _ (.inl h2);omega
  ·have:=hF0 _ (.inr h2);omega
  ·omega
theorem take_part (l : List UInt8) {w:World} {base nb mb nx lx lb:Nat} {FN FM:Nat→Prop} {n:Nst} {bl:Bld} {ts:List Tok} {v:Value} {B:Nat} {s sE:Nat×Option Nat} {p pE:Option (Int×Nat)} {m0 k:Nat} (kind:Int) (M:Mach w base nb mb nx FN FM n bl) (hT:Tab w) (h0:0<base) (hbs:base≤w.heap.size) (hi:InvN n s p) (hsp:Spans l ts s sE) (hwf:WfTo ts p pE) (hpb:PB n bl) (hci:CI n)
   (hm:manyLe n m0) (hm0:m0≤900000000) (hmo:n.most≤4990) (hsz:szB bl≤203000000) (hv:TRow w B v ts) (hvF:∀ g,v.ownBlock=some g→¬ FN g∧¬ FM g) (h2:ts.length≤2) (hlx:Own w lx 48 #[.pointer (some ⟨lb,0,none⟩)]) (hlxF:¬ FN lx∧¬ FM lx) (hlb:w.cell? ⟨lb,0,none⟩=some (.int .i64 k)) (hlbF:¬ FN lb∧¬ FM lb) :
   Calls Tryz.prog 16 #[v,.int .i64 kind,.pointer (some ⟨nx,0,none⟩),.pointer (some ⟨mb,0,none⟩),.pointer (some ⟨lx,0,none⟩)] w (ClEnd w base nb mb nx FN FM n bl ts kind k):=by
 obtain ⟨w1,hw1⟩:∃ w1,w1=w.alloc (.cells #[.int .i64 0,.int .i64 0] 29):=⟨_,rfl⟩
 have z1:w1.heap.size=w.heap.size+1:=by subst hw1;simp
 have hB1:Below w.heap.size w w1:=by subst hw1;exact (Below.refl _ _).alloc (Nat.le_refl _) _
 have o1:Own w1 w.heap.size 29 #[.int .i64 0,.int .i64 0]:=by subst hw1;exact Own.fresh _ _ _
 have M1:=M.move (w':=w1) (T:=fun _=>False) (Touch.of_new hB1) (fun _ _ h=>h) (fun h=>h)
 have hst:AtPt l w w1 base nb mb nx n bl ts sE pE m0 (szB bl) FN FM 0 n bl s p [] FN FM :=
   ⟨Nat.zero_le _,M1,hi,hsp,hwf,hpb,hci,hm,rfl,Nat.le_refl _,rfl,by simp,rfl,fun j hj=>hj.elim .inl (fun h=>.inr (.inl h)),Touch.of_new hB1,o1⟩
 obtain ⟨A,cv,rfl,hcv,_⟩:=hv.form
 have hbt:∃ bt o:Nat,(0<ts.length→A=some ⟨bt,o,none⟩∧(¬ FN bt∧¬ FM bt)∧bt<w.heap.size ∧ ∀ (i:Nat) (t:Tok),ts[i]?=some t →
   w.cell? ⟨bt,o+i*5,none⟩=some (.int .i64 t.kind)∧w.cell? ⟨bt,o+i*5+1,none⟩=some (.bool t.begun)∧w.cell? ⟨bt,o+i*5+2,none⟩=some (.int .i64 t.fr)∧w.cell? ⟨bt,o+i*5+3,none⟩=some (.int .i64 t.to)∧w.cell? ⟨bt,o+i*5+4,none⟩=some (.string ⟨t.text.toArray⟩)):=by
   by_cases hp:0<ts.length
   ·obtain ⟨bt,o,e,ho,hl,hc⟩:=hv.at hp
    exact ⟨bt,o,fun _=>⟨e,hvF bt ho,hl,hc⟩⟩
   ·exact ⟨0,0,fun h=>absurd h hp⟩
 obtain ⟨bt,o,hbt⟩:=hbt
 have HBT:=hid hbt
 have HST:=hid (show RelPt l w base nb mb nx n bl ts sE pE m0 (szB bl) FN FM (.int .i64 0) w1 from ⟨0,n,bl,s,p,[],FN,FM,rfl,hst⟩)
 have HW1:=hid hw1
 have HT0:=hid hT
 have HLX:=hid hlx
 have HLXF:=hid hlxF
 have HLB:=hid hlb
 have HLBF:=hid hlbF
 have HM:=hid M
 have HSZ:=hid hsz
 have HBS:=hid hbs
 have H0:=hid h0
 have HMO:=hid hmo
 have HM0:=hid hm0
 have Z1:=hid z1
 have tl:(ts.length:Int)≤2:=by omega
 clear hT hlx hlxF hlb hlbF M hsz hbs h0 hst M1 hbt hv hvF hi hsp hwf hpb hci hm hmo hB1 o1 hw1 hcv z1 hm0
 go_enter Tryz.func16,Tryz.ntmps16
 go_upto_region 1 with fail
 generalize hw:World.alloc w _=w2'
 have ew:w1=w2':=by rw[HW1.out];exact hw
 subst ew
 clear hw
 go_wp2
 go_loopw [16] (fun vi wr=>RelPt l w base nb mb nx n bl ts sE pE m0 (szB bl) FN FM vi wr) (fun vi _=>ts.length-(intOf vi).toNat)
 case atStart=>exact HST.out
 case round =>
   obtain ⟨j,n1,bl1,s1,p1,es0,FN1,FM1,rfl,h⟩:=hrel
   by_cases hlt:j<ts.length
   ·have e := List.drop_eq_getElem_cons hlt
    have hwf:=h.wf
    rw[e] at hwf
    obtain ⟨hokw,_⟩:=wf_cons hwf
    obtain ⟨eA,hbF,hbl,hcell⟩:=HBT.out (by omega)
    subst eA
    have hTo:=h.touch
    have hzr:=hTo.size
    have hF00:¬ (FN 0∨FM 0):=fun hh=>by have:=(HM.out.bnd 0 hh).1;have:=H0.out;omega
    have hTr:Tab wr:=HT0.out.touch hTo hF00
    have hcw:∀ i,wr.cell? ⟨bt,i,none⟩=w.cell? ⟨bt,i,none⟩:=fun i=>World.cell?_of_block (by exact hTo.block bt hbl (fun hh=>hh.elim hbF.1 hbF.2))
    obtain ⟨c0,c1,c2,c3,c4⟩:=hcell j ts[j] (List.getElem?_eq_getElem hlt)
    rw[← hcw] at c0 c1 c2 c3 c4
    have hnx:=fun w6 FN' FM'=>AtPt.next (w6:=w6) (FN':=FN') (FM':=FM') h hlt (fun k hk=>(HM.out.bnd k hk).2.1)
    have hal:=h.all
    have hfl:=h.flt
    rw[e,takeAll_cons] at hal
    rw[e] at hfl
    have hfl:faultAt n ts=if (takeN n1 ts[j]).2.2≠0 then ts[j].fr else faultAt (takeN n1 ts[j]).1 (ts.drop (j+1)):=hfl
    have hpk:(takeN n1 ts[j]).2.2=0→bl1.root=none ∧ ∀ e∈(takeN n1 ts[j]).2.1,e.kind=1∨e.kind=2:=fun hf=>by
      refine (h.pb.tok ts[j] (fun hb hk => ?_) hf).2
      unfold okW at hokw
      cases p1 with
      | none=>rw[hb] at hokw;have hokw:8≤ts[j].kind∧ts[j].kind≤10:=hokw;omega
      | some q=>have hokw:=hokw.1;rw[hb] at hokw;cases hokw
    have hwr:w.heap.size<wr.heap.size:=h.res.inside
    -- the world with the token in a variable of its own
    have hb2:Below wr.heap.size wr (wr.alloc (.cells (tokCells ts[j]).toArray 54)):=(Below.refl _ _).alloc (Nat.le_refl _) _
    have M2:=h.mach.move (w':=wr.alloc (.cells (tokCells ts[j]).toArray 54)) (T:=fun _=>False) (Touch.of_new hb2) (fun _ _ h=>h) (fun h=>h)
    have z2:(wr.alloc (.cells (tokCells ts[j]).toArray 54)).heap.size=wr.heap.size+1:=by simp
    have hmst:n1.op.length≤4990:=by have h1:=h.inv.deep;have h2:=h.most;have:=HMO.out;omega
    have HT:=hid (Take_nest M2.ns (fun k hk=>(M2.bnd k (.inl hk)).2.1) h.inv hokw (hTr.stay hb2 (hTr.elim fun _ h=>h.inside)) (fun o ho=>by have:=h.many o ho;have:=HM0.out;omega) hmst)
    have oT:Own (wr.alloc (.cells (tokCells ts[j]).toArray 54)) wr.heap.size 54 (tokCells ts[j]).toArray:=Own.fresh _ _ _
    have hres:=h.res.stay hb2 h.res.inside
    have hone:=takeN_one n1 ts[j]
    have HA:=hid h
    have HNX:=hid hnx
    have HAL:=hid hal
    have HFL:=hid hfl
    have HPK:=hid hpk
    have HM2:=hid M2
    have HOT:=hid oT
    have HRES:=hid hres
    have Z2:=hid z2
    have HB2:=hid hb2
    have HWR:=hid hwr
    have HOUT:=hid h.out
    have hxt:(tokCells ts[j]).toArray = #[.int .i64 ts[j].kind,.bool ts[j].begun,.int .i64 ts[j].fr,.int .i64 ts[j].to,.string ⟨ts[j].text.toArray⟩]:=rfl
    unfold tokArgs at HT
    rw[hxt] at HT HM2 HOT HRES Z2 HB2
    have cnx:(wr.alloc (.cells #[.int .i64 ts[j].kind,.bool ts[j].begun,.int .i64 ts[j].fr,.int .i64 ts[j].to,.string ⟨ts[j].text.toArray⟩] 54)).cell? ⟨nx,0,none⟩=some (.pointer (some ⟨nb,0,none⟩)):=by exact M2.on.at 0
    have hj0:(0:Int)≤(j:Int):=by omega
    have hj1:(j:Int)<(ts.length:Int):=by omega
    clear hwf hokw hcell hTo hzr hTr hcw hnx hal hfl hpk hwr hb2 M2 z2 hmst oT hres h e hxt hbF hbl hF00
    generalize hgt:ts[j]=t at *
    clear hgt
    have hone0:(takeN n1 t).2.2≠0→(takeN n1 t).2.1=[]:=hone.1
    have hone1:(takeN n1 t).2.1.length≤1:=hone.2
    clear hone
    generalize hr:takeN n1 t=r at *
    clear hr
    obtain ⟨n2,es,fl⟩:=r
    by_cases hf:fl=0
    ·subst hf
     have hfb:((0:Int) != 0)=false:=rfl
     have HNX':=hid (fun w6 FN' FM'=>HNX.out w6 FN' FM' rfl)
     clear hone0 HAL HFL HNX
     -- behind the Nest, and behind what was made of its event
     have FIN:=hid (fun (w5 w6:World) (FM6:Nat→Prop) (ht5:Touch FN1 (wr.alloc (.cells #[.int .i64 t.kind,.bool t.begun,.int .i64 t.fr,.int .i64 t.to,.string ⟨t.text.toArray⟩] 54)) w5) (M6:Mach w6 base nb mb nx (fun q=>(FN1 q∨(wr.alloc (.cells #[.int .i64 t.kind,.bool t.begun,.int .i64 t.fr,.int .i64 t.to,.string ⟨t.text.toArray⟩] 54)).heap.size≤q)∧q<w5.heap.size) FM6 n2 (bldA bl1 es)) (ho:∀ q,FM6 q→FM1 q∨wr.heap.size≤q) (t6:Touch FM1 w5 w6)=>show RelPt l w base nb mb nx n bl ts sE pE m0 (szB bl) FN FM (.int .i64 ((j+1:Nat):Int)) w6 from by
       have hz2:=Z2.out
       refine ⟨j+1,_,_,_,_,_,_,_,rfl,HNX'.out w6 _ FM6 M6 (fun q hq => ?_) ?_ HWR.out⟩
       ·rcases hq with ⟨h1|h1,_⟩|h1
        ·exact .inl h1
        ·exact .inr (.inr (by omega))
        ·exact (ho q h1).elim (fun h=>.inr (.inl h)) (fun h=>.inr (.inr h))
       ·have t5:Touch (fun q=>FN1 q∨FM1 q) wr w5:=((Touch.of_new (F:=fun q=>FN1 q∨FM1 q) HB2.out).trans ht5 (fun q _ h1=>.inl h1))
        exact t5.trans t6 (fun q _ h1=>.inr h1))
     have hcase:es=[] ∨ ∃ e,es=[e]:=by
       match es,hone1 with
       | [],_=>exact .inl rfl
       | [e],_=>exact .inr ⟨e,rfl⟩
     clear hone1
     rcases hcase with rfl|⟨e,rfl⟩
     ·go_wp2_with (go_at_call 17;refine HT.out.mono ?_;rintro e w5 ⟨v5,rfl,hr5,ht5,hs5⟩
                   obtain ⟨A5,c5,rfl,_⟩:=hr5.form
                   have F5:=hid (FIN.out w5 w5 FM1 ht5 (HM2.out.nest (by have:=HBS.out;have:=HWR.out;have:=Z2.out;omega) ht5 hs5) (fun q hq=>.inl hq) (Touch.refl _ _))
                   clear hr5 ht5 hs5)
      refine wp_loop_rounds 1 ?_
      rw[rounds_succ]
      go_wp2
      go_roundw
      case rel=>exact F5.out
      case measure=>simp[intOf];omega
     ·obtain ⟨ek, ev,ef,et,⟨nm,sn,si⟩,tx⟩:=e
      obtain ⟨hroot,hkinds⟩:=HPK.out rfl
      have hk12:ek=1∨ek=2:=hkinds ⟨ek,ev,ef,et,⟨nm,sn,si⟩,tx⟩ (by simp)
      have hroot':(⟨ek,ev,ef,et,⟨nm,sn,si⟩,tx⟩:Evt).kind=1→bl1.root=none:=fun _=>hroot
      have hz1:szB bl1≤206000000:=by have:=HA.out.size;have:=HSZ.out;omega
      have HCK:=hid (fun (w5:World) (FN5:Nat→Prop) (M5:Mach w5 base nb mb nx FN5 FM1 n2 bl1)=>show Calls Tryz.prog 18 #[.pointer (some ⟨mb,0,none⟩),.agg #[.int .i64 ek,.int .i64 ev,.int .i64 ef,.int .i64 et,.bool nm,.string ⟨sn.toArray⟩,.int .i64 si,.string ⟨tx.toArray⟩]] (w5.alloc (.cells #[.int .i64 ek,.int .i64 ev,.int .i64 ef,.int .i64 et,.bool nm,.string ⟨sn.toArray⟩,.int .i64 si,.string ⟨tx.toArray⟩] 61)) fun e' w'=>e'=.returned (.tuple #[])∧BIs w' mb (fun q=>FM1 q∨(w5.alloc (.cells #[.int .i64 ek,.int .i64 ev,.int .i64 ef,.int .i64 et,.bool nm,.string ⟨sn.toArray⟩,.int .i64 si,.string ⟨tx.toArray⟩] 61)).heap.size≤q) (bldE bl1 ⟨ek,ev,ef,et,⟨nm,sn,si⟩,tx⟩)∧Touch FM1 (w5.alloc (.cells #[.int .i64 ek,.int .i64 ev,.int .i64 ef,.int .i64 et,.bool nm,.string ⟨sn.toArray⟩,.int .i64 si,.string ⟨tx.toArray⟩] 61)) w' from
        Take_bld (M5.bs.move (T:=fun _=>False) (Touch.of_new ((Below.refl _ _).alloc (Nat.le_refl _) _)) (fun _ _ _ h=>h)) ⟨ek,ev,ef,et,⟨nm,sn,si⟩,tx⟩ hk12 hroot' hz1)
      clear hroot hkinds hk12 hroot' hz1
      go_wp2_with (go_at_call 17;refine HT.out.mono ?_;rintro e w5 ⟨v5,rfl,hr5,ht5,hs5⟩
                   obtain ⟨A5,c5,hv5,hc5,_,hA5⟩:=hr5.form
                   obtain ⟨g5,rfl,_,hg5⟩:=hA5 (by simp)
                   subst hv5
                   have hrd:=hr5.rd
                   have x0:=hrd.at rfl (i:=0) rfl (j:=0) rfl
                   have x1:=hrd.at rfl (i:=0) rfl (j:=1) rfl
                   have x2:=hrd.at rfl (i:=0) rfl (j:=2) rfl
                   have x3:=hrd.at rfl (i:=0) rfl (j:=3) rfl
                   have x4:=hrd.at rfl (i:=0) rfl (j:=4) rfl
                   have x5:=hrd.at rfl (i:=0) rfl (j:=5) rfl
                   have x6:=hrd.at rfl (i:=0) rfl (j:=6) rfl
                   have x7:=hrd.at rfl (i:=0) rfl (j:=7) rfl
                   simp only [Nat.zero_mul,Nat.zero_add] at x0 x1 x2 x3 x4 x5 x6 x7
                   have M5:=HM2.out.nest (by have:=HBS.out;have:=HWR.out;have:=Z2.out;omega) ht5 hs5
                   have HM5:=hid M5
                   have HT5:=hid ht5
                   have HC5:=hid (HCK.out w5 _ M5)
                   clear hr5 ht5 hs5 hrd M5 hA5 hc5)
      refine wp_loop_rounds 2 ?_
      rw[rounds_succ]
      go_wp2_with (go_at_call 18;refine HC5.out.mono ?_;rintro e w6 ⟨rfl,hb6,ht6⟩
                   have hev:Below w5.heap.size w5 (w5.alloc (.cells #[.int .i64 ek,.int .i64 ev,.int .i64 ef,.int .i64 et,.bool nm,.string ⟨sn.toArray⟩,.int .i64 si,.string ⟨tx.toArray⟩] 61)):=(Below.refl _ _).alloc (Nat.le_refl _) _
                   have M5a:=HM5.out.move (T:=fun _=>False) (Touch.of_new hev) (fun _ _ h=>h) (fun h=>h)
                   have M6:=M5a.made (by have:=HBS.out;have:=HWR.out;have:=Z2.out;have:=HT5.out.size;have:=hev.size;omega) ht6 hb6
                   have F6:=hid (FIN.out w5 w6 _ HT5.out M6 (fun q hq=>hq.1.elim .inl (fun h=>.inr (by have:=Z2.out;have:=HT5.out.size;have:=hev.size;omega))) ((Touch.of_new (F:=FM1) hev).trans ht6 (fun _ _ h=>h)))
                   clear hb6 ht6 hev M5a M6)
      rw[rounds_succ]
      go_wp2
      go_roundw
      case rel=>exact F6.out
      case measure=>simp[intOf];omega
    ·have hfb : (fl != 0)=true:=bne_iff_ne.2 hf
     have HES:=hid (show es=[] from hone0 hf)
     have HF:=hid hf
     clear hone0 hone1 hf
     go_wp2_with (go_at_call 17;refine HT.out.mono ?_;rintro e w5 ⟨v5,rfl,hr5,ht5,hs5⟩
                  have o5:Own w5 wr.heap.size 54 _:=ht5.own HOT.out (fun hh=>by have:=(HM2.out.bnd _ (.inl hh)).2.1;have:=(HA.out.mach.bnd _ (.inl hh)).2.1;omega)
                  have q2:=o5.at 2
                  simp at q2
                  have res5:Own w5 w.heap.size 29 _:=ht5.own HRES.out (fun hh=>by
                    rcases HOUT.out _ (.inl hh) with h2|h2|h2
                    ·have:=(HM.out.bnd _ (.inl h2)).2.1;omega
                    ·have:=(HM.out.bnd _ (.inr h2)).2.1;omega
                    ·omega)
                  have r0:=res5.at 0
                  have r1:=res5.at 1
                  simp at r0 r1
                  have g0:=res5.free 0
                  have g1:=res5.free 1
                  have HR5:=hid res5
                  have HT5:=hid ht5
                  have HS5:=hid hs5
                  clear hr5 ht5 hs5 o5 res5)
     have hO:=(HR5.out.put 0 (.int .i64 fl)).put 1 (.int .i64 t.fr)
     have hO:Own ((w5.setCell ⟨w.heap.size,0,none⟩ (.int .i64 fl)).setCell ⟨w.heap.size,1,none⟩ (.int .i64 t.fr)) w.heap.size 29 #[.int .i64 fl,.int .i64 t.fr]:=by simpa using hO
     refine bodyPost_ret (results_cell_row rfl _ _ w.heap.size _ _ (0,0) _ rfl hO Tryz.underlying29 rfl verd_size) rfl ?_
     have hal:=HAL.out
     have hfl:=HFL.out
     rw[if_pos HF.out] at hal
     rw[if_pos HF.out] at hfl
     rw[HES.out,List.append_nil] at hal
     have hbs:=HA.out.bl_
     have hz:=HA.out.size
     have hz2:=Z2.out
     have hz5:=HT5.out.size
     have hwr:=HWR.out
     have M5:=HM2.out.nest (by have:=HBS.out;omega) HT5.out HS5.out
     have wx:∀ q,((FN1 q∨FM1 q)→q≠w.heap.size):=fun q hq e=>by
       rcases HOUT.out q hq with h2|h2|h2
       ·have:=(HM.out.bnd _ (.inl h2)).2.1;omega
       ·have:=(HM.out.bnd _ (.inr h2)).2.1;omega
       ·omega
     have tS:Touch (fun q=>q=w.heap.size) w5 ((w5.setCell ⟨w.heap.size,0,none⟩ (.int .i64 fl)).setCell ⟨w.heap.size,1,none⟩ (.int .i64 t.fr)):=((Touch.refl (fun q=>q=w.heap.size) w5).setCell (p:=⟨w.heap.size,0,none⟩) (.inl rfl) _).setCell (p:=⟨w.heap.size,1,none⟩) (.inl rfl) _
     have nxw:nx≠w.heap.size:=by have:=HM.out.on.inside;omega
     have M6:=M5.move tS (fun q hq e=>by
       have e:q=w.heap.size:=e
       rcases hq with ⟨h1|h1,_⟩|h1
       ·exact wx q (.inl h1) e
       ·omega
       ·exact wx q (.inr h1) e) nxw
     refine ⟨fl,t.fr,fun q=>(FN1 q∨(wr.alloc (.cells #[.int .i64 t.kind,.bool t.begun,.int .i64 t.fr,.int .i64 t.to,.string ⟨t.text.toArray⟩] 54)).heap.size≤q)∧q<w5.heap.size,FM1,rfl,fun _=>⟨by rw[hal],hfl.symm⟩,fun hh=>absurd (by rw[hal] at hh;exact hh) HF.out,?_,fun q hq => ?_,?_,?_⟩
     ·rw[hal]
      simp only
      rw[← hbs]
      exact M6
     ·rcases hq with ⟨h1|h1,_⟩|h1
      ·rcases HOUT.out q (.inl h1) with h2|h2|h2
       ·exact .inl h2
       ·exact .inr (.inl h2)
       ·exact .inr (.inr (by omega))
      ·exact .inr (.inr (by omega))
      ·rcases HOUT.out q (.inr h1) with h2|h2|h2
       ·exact .inl h2
       ·exact .inr (.inl h2)
       ·exact .inr (.inr (by omega))
     ·have t1:=HA.out.touch
      have t2:Touch (fun q=>FN q∨FM q) w w5:=t1.trans ((Touch.of_new (F:=FN1) HB2.out).trans HT5.out (fun _ _ h=>h)) (fun q hq h1=>by
        rcases HOUT.out q (.inl h1) with h2|h2|h2
        ·exact .inl h2
        ·exact .inr h2
        ·omega)
      exact t2.trans tS (fun q hq e=>by have e:q=w.heap.size:=e;omega)
     ·rw[hal]
      simp only
      rw[← hbs]
      omega
   ·have hje:j=ts.length:=by have:=h.le;omega
    subst hje
    have hd:ts.drop ts.length=[]:=List.drop_length
    have hal:=h.all
    rw[hd] at hal
    have hal:takeAll n ts=(n1,es0++[],0):=hal
    rw[List.append_nil] at hal
    have hTo:=h.touch
    have hxb:n1.may.isBroken=false:=by rw[← bad_broken];exact h.pb.j.bad
    obtain ⟨c1,_⟩:=h.mach.ns.cells hxb
    have HD:=hid (done_any nb _ wr c1)
    rw[code_not] at HD
    have cnx:=h.mach.on.at 0
    have clx:=(hTo.own HLX.out (fun hh=>hh.elim HLXF.out.1 HLXF.out.2)).at 0
    simp at cnx clx
    have clb:wr.cell? ⟨lb,0,none⟩=some (.int .i64 k):=by
      have hl:=cell_inside HLB.out
      exact (World.cell?_of_block (by exact hTo.block lb hl (fun hh=>hh.elim HLBF.out.1 HLBF.out.2))).trans HLB.out
    have HAT:=hid (at_any wr lb k clb)
    have r0:=h.res.at 0
    have r1:=h.res.at 1
    simp at r0 r1
    have g0:=h.res.free 0
    have g1:=h.res.free 1
    have HA:=hid h
    have HAL:=hid hal
    have HOUT:=hid h.out
    -- the end, whatever the kind
    have FIN:=hid (fun (kd:Int) (hkd:kd=if kind=8∧n1.may.isNothing=true then 9 else kind)=>show Own ((wr.setCell ⟨w.heap.size,0,none⟩ (.int .i64 kd)).setCell ⟨w.heap.size,1,none⟩ (.int .i64 k)) w.heap.size 29 #[.int .i64 kd,.int .i64 k]∧ClEnd w base nb mb nx FN FM n bl ts kind k (.returned (.agg #[.int .i64 kd,.int .i64 k])) ((wr.setCell ⟨w.heap.size,0,none⟩ (.int .i64 kd)).setCell ⟨w.heap.size,1,none⟩ (.int .i64 k)) by
      have hO:=(HA.out.res.put 0 (.int .i64 kd)).put 1 (.int .i64 k)
      refine ⟨by simpa using hO,kd,k,FN1,FM1,rfl,fun hh=>absurd (by rw[hal]) hh,fun _=>⟨by rw[hal];exact hkd,rfl,?_,by rw[hal];exact HA.out.ci⟩,?_,fun q hq => ?_,?_,?_⟩
      ·rw[hal]
       simp only
       rw[← HA.out.bl_]
       exact HA.out.pb
      ·rw[hal]
       simp only
       rw[← HA.out.bl_]
       refine HA.out.mach.move (((Touch.refl (fun q=>q=w.heap.size) wr).setCell (p:=⟨w.heap.size,0,none⟩) (.inl rfl) _).setCell (p:=⟨w.heap.size,1,none⟩) (.inl rfl) _) (fun q hq e => ?_) (by show nx≠w.heap.size;have:=HM.out.on.inside;omega)
       have e:q=w.heap.size:=e
       rcases HOUT.out q hq with h2|h2|h2
       ·have:=(HM.out.bnd _ (.inl h2)).2.1;omega
       ·have:=(HM.out.bnd _ (.inr h2)).2.1;omega
       ·omega
      ·rcases HOUT.out q hq with h2|h2|h2
       ·exact .inl h2
       ·exact .inr (.inl h2)
       ·exact .inr (.inr (by omega))
      ·exact HA.out.touch.trans (((Touch.refl (fun q=>q=w.heap.size) wr).setCell (p:=⟨w.heap.size,0,none⟩) (.inl rfl) _).setCell (p:=⟨w.heap.size,1,none⟩) (.inl rfl) _) (fun q hq e=>by have e:q=w.heap.size:=e;omega)
      ·rw[hal]
       simp only
       rw[← HA.out.bl_]
       exact HA.out.size)
    clear h hd hal hTo hxb c1 clb
    by_cases hk8:kind=8
    ·subst hk8
     cases hnn:n1.may.isNothing with
     | true =>
       rw[hnn] at HD FIN
       go_wp2_with (first
         | (go_at_call 19;refine HD.out.mono ?_;rintro e w' ⟨rfl,rfl⟩)
         | (go_at_call 20;refine HAT.out.mono ?_;rintro e w' ⟨rfl,rfl⟩))
       obtain ⟨hO,hE⟩:=FIN.out 9 rfl
       refine bodyPost_ret (results_cell_row rfl _ _ w.heap.size _ _ (0,0) _ rfl hO Tryz.underlying29 rfl verd_size) rfl ?_
       exact hE
     | false =>
       rw[hnn] at HD FIN
       go_wp2_with (first
         | (go_at_call 19;refine HD.out.mono ?_;rintro e w' ⟨rfl,rfl⟩)
         | (go_at_call 20;refine HAT.out.mono ?_;rintro e w' ⟨rfl,rfl⟩))
       obtain ⟨hO,hE⟩:=FIN.out 8 rfl
       refine bodyPost_ret (results_cell_row rfl _ _ w.heap.size _ _ (0,0) _ rfl hO Tryz.underlying29 rfl verd_size) rfl ?_
       exact hE
    ·have hkb:(kind==8)=false:=beq_eq_false_iff_ne.2 hk8
     have hkd:kind=if kind=8∧n1.may.isNothing=true then 9 else kind:=by rw[if_neg (fun hh=>hk8 hh.1)]
     have HKD:=hid hkd
     clear hkd hk8
     go_wp2_with (first
       | (go_at_call 20;refine HAT.out.mono ?_;rintro e w' ⟨rfl,rfl⟩))
     obtain ⟨hO,hE⟩:=FIN.out kind HKD.out
     refine bodyPost_ret (results_cell_row rfl _ _ w.heap.size _ _ (0,0) _ rfl hO Tryz.underlying29 rfl verd_size) rfl ?_
     exact hE
end
section
open Go.RowKit
theorem takeAll_one (n:Nst) (t:Tok) (h:(takeN n t).2.2=0):takeAll n [t]=((takeN n t).1,(takeN n t).2.1++[],0):=by
 rw[takeAll_cons,if_neg (fun hh=>hh h)]
 rfl
theorem outL_toks (k:Nat) (c:UInt8):(outL k c).1=[] ∨ ∃ t,(outL k c).1=[t]∧t.fr=k:=by
 unfold outL
 (repeat' split)<;>first
   | exact .inl rfl
   | exact .inr ⟨_,rfl,rfl⟩
theorem fa_out (n:Nst) (k:Nat) (c:UInt8) (h:(takeAll n (outL k c).1).2.2≠0):faultAt n (outL k c).1=k:=by
 rcases outL_toks k c with e|⟨t,e,hk⟩
 ·rw[e] at h;exact absurd rfl h
 ·rw [e] at h ⊢
  by_cases hf:(takeN n t).2.2≠0
  ·show (if _ then _ else _)=_
   rw[if_pos hf]
   exact hk
  ·rw[takeAll_one n t (Decidable.not_not.1 hf)] at h
   exact absurd rfl h
theorem faultAt_k (st:LSt) (n:Nst) (k:Nat) (c:UInt8) (h:Fit st n) (hf:(takeAll n (stepL st k c).1).2.2≠0):faultAt n (stepL st k c).1=k:=by
 obtain ⟨hx,h⟩:=h
 have nil:(stepL st k c).1=[]→faultAt n (stepL st k c).1=k:=fun e=>by rw[e] at hf;exact absurd rfl hf
 have one:∀ t,(stepL st k c).1=[t]→n.begun≠0→faultAt n (stepL st k c).1=k:=fun t e hb=>by
   rw[e,takeAll_one n t (takeN_end n t hx hb).1] at hf
   exact absurd rfl hf
 cases st with
 | dead=>exact h.elim
 | out=>exact fa_out n k c hf
 | num a f p =>
   have h:n.begun≠0:=h
   by_cases h1:nxI a c.toNat≠0
   ·have e:stepL (.num a f p) k c=([],0,.num (nxI a c.toNat) f (p++[c])):=by show (if _ then _ else _)=_;rw[if_pos h1]
    exact nil (by rw[e])
   ·by_cases h2:(whI a && !stickI c.toNat)=true
    ·have e:stepL (.num a f p) k c=(⟨9,false,f,k,p⟩ :: (outL k c).1,(outL k c).2.1,(outL k c).2.2):=by show (if _ then _ else if _ then _ else _)=_;rw[if_neg h1,if_pos h2]
     rw[e] at hf ⊢
     have g:=(takeN_end n ⟨9,false,f,k,p⟩ hx h).1
     rw[takeAll_cons,if_neg (fun hh=>hh g)] at hf
     show (if _ then _ else _)=_
     rw[if_neg (fun hh=>hh g)]
     exact fa_out _ k c hf
    ·have e:stepL (.num a f p) k c=([],5,.dead):=by show (if _ then _ else if _ then _ else _)=_;rw[if_neg h1,if_neg h2]
     exact nil (by rw[e])
 | word f p =>
   have h:n.begun≠0:=h
   by_cases h1:refL (p++[c])=2
   ·have e:stepL (.word f p) k c=([],6,.dead):=by show (if _ then _ else if _ then _ else _)=_;rw[if_pos h1]
    exact nil (by rw[e])
   ·by_cases h2:refL (p++[c])=1
    ·have e:stepL (.word f p) k c=([⟨10,false,f,k+1,p++[c]⟩],0,.out):=by show (if _ then _ else if _ then _ else _)=_;rw[if_neg h1,if_pos h2]
     exact one _ (by rw[e]) h
    ·have e:stepL (.word f p) k c=([],0,.word f (p++[c])):=by show (if _ then _ else if _ then _ else _)=_;rw[if_neg h1,if_neg h2]
     exact nil (by rw[e])
 | str q f acc =>
   have h:n.begun≠0:=h
   cases hs:stepQ q c with
   | none =>
     have e:(stepL (.str q f acc) k c).1=(strL q f acc k c none).1:=by show (strL q f acc k c (stepQ q c)).1=_;rw[hs]
     exact nil (e.trans rfl)
   | some x =>
     obtain ⟨q',y⟩:=x
     have e:(stepL (.str q f acc) k c).1=(strL q f acc k c (some (q',y))).1:=by show (strL q f acc k c (stepQ q c)).1=_;rw[hs]
     by_cases hd:q'=.done
     ·subst hd
      exact one _ e h
     ·refine nil (e.trans ?_)
      cases q'<;>first|rfl|exact absurd rfl hd
theorem closing (st:LSt) (n:Nst) (k:Nat) (h:Fit st n):(takeAll n (closeL st k).1).2.2=0∧((closeL st k).2=1∨(closeL st k).2=10):=by
 obtain ⟨hx,h⟩:=h
 cases st with
 | dead=>exact h.elim
 | out=>exact ⟨rfl,.inl rfl⟩
 | num a f p =>
   have h:n.begun≠0:=h
   by_cases h2:whI a=true
   ·have e:closeL (.num a f p) k=([⟨9,false,f,k,p⟩],1):=by show (if _ then _ else _)=_;rw[if_pos h2]
    rw[e]
    refine ⟨?_,.inl rfl⟩
    rw[takeAll_one n _ (takeN_end n ⟨9,false,f,k,p⟩ hx h).1]
   ·have e:closeL (.num a f p) k=([],10):=by show (if _ then _ else _)=_;rw[if_neg h2]
    rw[e]
    exact ⟨rfl,.inr rfl⟩
 | word f p=>exact ⟨rfl,.inr rfl⟩
 | str q f acc=>exact ⟨rfl,.inr rfl⟩
theorem fit_alive {st:LSt} {n:Nst} (h:Fit st n):st≠.dead:=by
 rintro rfl
 exact h.2.elim
theorem takeAll_len (ts:List Tok):∀ n,(takeAll n ts).2.1.length≤ts.length:=by
 induction ts with
 | nil=>intro n;exact Nat.le_refl _
 | cons t ts ih =>
   intro n
   have h1:=(takeN_one n t).2
   have h2:=ih (takeN n t).1
   rw[takeAll_cons]
   split
   ·simp;omega
   ·simp only [List.length_append,List.length_cons];omega
theorem goP_len (l:List UInt8):∀ (st:LSt) (n:Nst) (k:Nat),(goP st n l k).1.length≤2*l.length+2:=by
 induction l with
 | nil =>
   intro st n k
   show (takeAll n (closeL st k).1).2.1.length≤_
   have:=takeAll_len (closeL st k).1 n
   have:=(closeL_one st k).1
   simp
   omega
 | cons c t ih =>
   intro st n k
   have h1:(byteP st n k c).1.length≤2:=Nat.le_trans (takeAll_len _ _) (stepL_two st k c)
   have h2:=ih (byteP st n k c).2.2.1 (byteP st n k c).2.2.2 (k+1)
   show (if _ then _ else _:List Evt×Int×Nat).1.length≤_
   split
   ·show (byteP st n k c).1.length≤_
    simp;omega
   ·show (_++_:List Evt).length≤_
    simp only [List.length_append,List.length_cons];omega
theorem bldA_size (es:List Evt):∀ b,szB (bldA b es)≤szB b+es.length:=by
 induction es with
 | nil=>intro b;exact Nat.le_refl _
 | cons e es ih =>
   intro b
   have h1:=ih (bldE b e)
   have h2:=bldE_size b e
   show szB (bldA (bldE b e) es)≤_
   simp only [List.length_cons];omega
theorem tree_small (l:List UInt8) (d:Int) (h:l.length≤100000000):sizeT (treeP l d)≤420000000:=by
 have h1:(parseP l d).1.length≤2*l.length+2:=goP_len l .out (newN d) 0
 have h2:=bldA_size (parseP l d).1 ⟨[],none⟩
 have h0:szB ⟨[],none⟩=0:=rfl
 unfold treeP treeE
 cases hr:(bldA ⟨[],none⟩ (parseP l d).1).root with
 | none=>show sizeT (.mk 0 0 0 [] [] [])≤_;simp[sizeT,sizeL]
 | some t =>
   have h3:szR (some t)≤szB (bldA ⟨[],none⟩ (parseP l d).1):=by unfold szB;rw[hr];omega
   have h4:szR (some t)=sizeT t:=rfl
   show sizeT t≤_
   omega
theorem built_whole {n:Nst} {bl:Bld} (h:PB n bl) (hc:closeN n=1):∃ t,bl=⟨[],some t⟩:=by
 have hn:=close_nothing n hc
 have h1:=h.nt hn
 have h2:=h.j.noth hn
 have h3:=h.cn
 have hb:n.begun=0:=by
   by_cases hb:n.begun=0
   ·exact hb
   ·rcases h.j.beg hb with h1|h1<;>(cases hm:n.may<;>rw[hm] at hn h1<;>first|(cases hn;done)|(cases h1;done))
 unfold cnt at h3
 rw[h2,if_neg (fun hh=>hh.1 hb)] at h3
 obtain ⟨op,rt⟩:=bl
 have h5:0=op.length:=by simpa using h3
 have h4:op=[]:=List.eq_nil_of_length_eq_zero h5.symm
 subst h4
 cases rt with
 | none=>exact absurd rfl h1
 | some t=>exact ⟨t,rfl⟩
theorem goP_byte (st:LSt) (n:Nst) (l:List UInt8) (k:Nat) (c:UInt8) (rest:List UInt8) (h:l.drop k=c :: rest):goP st n (l.drop k) k=if (byteP st n k c).2.1≠0 then ((byteP st n k c).1,(byteP st n k c).2.1,k) else
   ((byteP st n k c).1++(goP (byteP st n k c).2.2.1 (byteP st n k c).2.2.2 (l.drop (k+1)) (k+1)).1,(goP (byteP st n k c).2.2.1 (byteP st n k c).2.2.2 (l.drop (k+1)) (k+1)).2):=by
 have e:l.drop (k+1)=rest:=by rw[← List.drop_drop,h];rfl
 rw[h,e]
 rfl
end
section
open Go.RowKit
theorem takeAll_keeps (l:List UInt8) (ts:List Tok):∀ (n:Nst) (s sE:Nat×Option Nat) (p pE:Option (Int×Nat)) (m:Nat),InvN n s p→Spans l ts s sE→WfTo ts p pE→manyLe n m→(takeAll n ts).2.2=0 →
   InvN (takeAll n ts).1 sE pE∧manyLe (takeAll n ts).1 (m+ts.length)∧(takeAll n ts).1.most=n.most:=by
 induction ts with
 | nil =>
   intro n s sE p pE m hi hs hw hm _
   have hs:s=sE:=hs
   have hw:p=pE:=hw
   subst hs hw
   exact ⟨hi,hm,rfl⟩
 | cons t ts ih =>
   intro n s sE p pE m hi hs hw hm h
   obtain ⟨h1,h2,h3,_⟩:=takeAll_ok h
   obtain ⟨a1,a2⟩:=spans_cons hs
   obtain ⟨b1,b2⟩:=wf_cons hw
   rw[h3]
   obtain ⟨c1,c2,c3⟩:=ih _ _ _ _ _ (m+1) (takeN_ok l n s p t hi a1 b1 h1).1 a2 b2 (takeN_many n t m hm) h2
   refine ⟨c1,fun o ho => ?_,c3.trans (takeN_most n t)⟩
   have:=c2 o ho
   simp only [List.length_cons]
   omega
structure RunPa (l:List UInt8) (d:Int) (W wr:World) (lx nx nb k:Nat) (st:LSt) (n:Nst) (bl:Bld) (s:Nat×Option Nat) (es:List Evt) (FL FN FM:Nat→Prop):Prop where
 le:k≤l.length
 mach:Mach wr (W.heap.size+2) nb (W.heap.size+2) nx FN FM n bl
 box:Own wr lx 48 #[.pointer (some ⟨W.heap.size+3,0,none⟩)]
 low:W.heap.size+2≤lx∧W.heap.size+2≤nx
 lex:LexIs wr (W.heap.size+3) FL k st
 lbnd:∀ j,FL j→W.heap.size+2<j∧j<wr.heap.size∧j≠lx∧j≠nx
 apart:∀ j,FL j→¬ FN j∧¬ FM j
 lxF:¬ FN lx∧¬ FM lx
 fit:Fit st n
 inv:InvN n s (pendL st)
 invT:InvT l st k s
 short:Short k st
 pb:PB n bl
 ci:CI n
 many:manyLe n (2*k)
 most:n.most≤4990
 size:szB bl≤2*k
 bl_:bl=bldA ⟨[],none⟩ es
 go:parseP l d=(es++(goP st n (l.drop k) k).1,(goP st n (l.drop k) k).2)
 bel:Below W.heap.size W wr
 res6:Own wr W.heap.size 27 zeroV.toArray
 res8:Own wr (W.heap.size+1) 29 #[.int .i64 0,.int .i64 k]
structure StopPa (l:List UInt8) (d:Int) (W w:World) (kd:Int) (at_:Nat):Prop where
 kd_:(parseP l d).2=(kd,at_)
 k0:kd≠0
 bs:∃ FM,BIs w (W.heap.size+2) FM (bldA ⟨[],none⟩ (parseP l d).1)
 one:kd=1 → ∃ t,bldA ⟨[],none⟩ (parseP l d).1=⟨[],some t⟩
 bel:Below W.heap.size W w
 res6:Own w W.heap.size 27 zeroV.toArray
 res8:Own w (W.heap.size+1) 29 #[.int .i64 kd,.int .i64 at_]
def RelPa (l:List UInt8) (d:Int) (W:World) (lx nx nb:Nat) (wr:World):Prop :=
 (∃ (k:Nat) (st:LSt) (n:Nst) (bl:Bld) (s:Nat×Option Nat) (es:List Evt) (FL FN FM:Nat→Prop),RunPa l d W wr lx nx nb k st n bl s es FL FN FM) ∨ ∃ (kd:Int) (at_:Nat),kd≠1∧StopPa l d W wr kd at_
section
variable {l:List UInt8} {d:Int} {W wr:World} {lx nx nb k:Nat} {st:LSt} {n:Nst} {bl:Bld} {s:Nat×Option Nat} {es:List Evt} {FL FN FM:Nat→Prop}
theorem RunPa.drew (h:RunPa l d W wr lx nx nb k st n bl s es FL FN FM):RunPa l d W wr.drew lx nx nb k st n bl s es FL FN FM:=by
 have ht:Touch (fun _=>False) wr wr.drew:=(Touch.refl _ wr).drewN 1
 exact ⟨h.le,h.mach.move ht (fun _ _ h=>h) (fun h=>h),h.box,h.low,h.lex.stay ht (fun _ _ _ h=>h),h.lbnd,h.apart,h.lxF,h.fit,h.inv,h.invT,h.short,h.pb,h.ci,h.many,h.most,h.size,h.bl_,h.go,
   h.bel.trans (ht.below (fun _ _ h=>h.elim) h.bel.size),h.res6,h.res8⟩
theorem lex_cell {w:World} {b k:Nat} {F:Nat→Prop} {st:LSt} (h:LexIs w b F k st):w.cell? ⟨b,0,none⟩=some (.int .i64 k):=by
 obtain ⟨cs,ho,hl,h0⟩:=h.any
 exact (ho.at 0).trans (by simpa using h0)
def putV (w:World)(b:Nat)(kd:Int)(at_:Nat):World:=(w.setCell ⟨b,0,none⟩ (.int .i64 kd)).setCell ⟨b,1,none⟩ (.int .i64 at_)
theorem putV_touch (w:World)(b:Nat)(kd:Int)(at_:Nat):Touch (fun q=>q=b) w (putV w b kd at_):=((Touch.refl (fun q=>q=b) w).setCell (p:=⟨b,0,none⟩) (.inl rfl) _).setCell (p:=⟨b,1,none⟩) (.inl rfl) _
theorem putV_own {w:World} {b:Nat} {T:TypeId} {x y:Value} (h:Own w b T #[x,y]) (kd:Int) (at_:Nat):Own (putV w b kd at_) b T #[.int .i64 kd,.int .i64 at_]:=by
 have hO:=(h.put 0 (.int .i64 kd)).put 1 (.int .i64 at_)
 unfold putV
 simpa using hO
theorem part_step (h:RunPa l d W wr lx nx nb k st n bl s es FL FN FM) (hT:Tab W) (hl:l.length≤100000000) {c:UInt8} {rest:List UInt8} (hc:l.drop k=c :: rest) {w1:World} {v:Value} (hv:TRow w1 wr.heap.size v (stepL st k c).1) (t1:Touch FL wr w1)
   (l1:LexIs w1 (W.heap.size+3) (fun j=>FL j∨wr.heap.size≤j) (if (stepL st k c).2.1=0 then k+1 else k) (if (stepL st k c).2.1=0 then (stepL st k c).2.2 else .dead)) :
   Calls Tryz.prog 16 #[v,.int .i64 (stepL st k c).2.1,.pointer (some ⟨nx,0,none⟩),.pointer (some ⟨W.heap.size+2,0,none⟩),.pointer (some ⟨lx,0,none⟩)] w1 fun e w2 => ∃ (kd:Int) (at_:Nat),e=.returned (.agg #[.int .i64 kd,.int .i64 at_]) ∧
     Own w2 lx 48 #[.pointer (some ⟨W.heap.size+3,0,none⟩)]∧Below W.heap.size W w2∧Own w2 (W.heap.size+1) 29 #[.int .i64 0,.int .i64 k]∧RelPa l d W lx nx nb (putV w2 (W.heap.size+1) kd at_)∧(kd≠0∨at_=k+1):=by
 have hk:k<l.length:=by
   have:=congrArg List.length hc
   simp at this
   omega
 have hck:l[k]?=some c:=by
   have:=congrArg List.head? hc
   simpa [List.head?_drop] using this
 have hal:=fit_alive h.fit
 have hlb:=h.lex.has
 have hlbw:=h.lex.inside
 have M1:=h.mach.move t1 (fun q hq hf=>hq.elim (h.apart q hf).1 (h.apart q hf).2) (fun hf=>(h.lbnd nx hf).2.2.2 rfl)
 have b1:Below W.heap.size W w1:=h.bel.trans (t1.below (fun j _ hj=>by have:=(h.lbnd j hj).1;omega) h.bel.size)
 have hT1:=hT.stay b1 (hT.elim fun _ h=>h.inside)
 obtain ⟨s',sp,_,inv',_⟩:=stepL_ok l st k c hck s h.invT
 obtain ⟨q,wf,hq⟩:=stepL_wf st k c hal
 have h2:=stepL_two st k c
 have bx1:=t1.own h.box (fun hf=>(h.lbnd lx hf).2.2.1 rfl)
 have hs1:=t1.size
 have r81:=t1.own h.res8 (fun hf=>by have:=(h.lbnd _ hf).1;omega)
 have r61:=t1.own h.res6 (fun hf=>by have:=(h.lbnd _ hf).1;omega)
 have hnx:=h.mach.on.inside
 have hlxw:=h.box.inside
 refine (take_part l (stepL st k c).2.1 M1 hT1 (by omega) (by omega) h.inv sp wf h.pb h.ci h.many (by omega) h.most (by have:=h.size;omega) hv (fun g hg => ?_) h2 bx1 h.lxF (lex_cell l1) (h.apart _ hlb)).mono ?_
 ·have hg:=(hv.low hg).1
  exact ⟨fun hf=>by have:=(h.mach.bnd g (.inl hf)).2.1;omega,fun hf=>by have:=(h.mach.bnd g (.inr hf)).2.1;omega⟩
 ·rintro e w2 ⟨kd,at_,FN',FM',rfl,hF,h0,M2,hsub,t2,hsz⟩
  have hs2:=t2.size
  have no2:∀ q,q<W.heap.size+2→¬ (FN q∨FM q):=fun q hq hf=>by have:=(h.mach.bnd q hf).1;omega
  have bx2:=t2.own bx1 (fun hf=>hf.elim h.lxF.1 h.lxF.2)
  have b2:Below W.heap.size W w2:=b1.trans (t2.below (fun j _ hj=>by have:=(h.mach.bnd j hj).1;omega) b1.size)
  have r82:=t2.own r81 (no2 _ (by omega))
  have r62:=t2.own r61 (no2 _ (by omega))
  have t3:=putV_touch w2 (W.heap.size+1) kd at_
  have r83:=putV_own r82 kd at_
  have hs3:=t3.size
  have low:=h.low
  have M3:=M2.move t3 (fun q hq e=>by have:=(M2.bnd q hq).1;have e:q=W.heap.size+1:=e;omega) (fun e=>by have e:nx=W.heap.size+1:=e;omega)
  have r63:=t3.own r62 (fun e=>by have e:W.heap.size=W.heap.size+1:=e;omega)
  have bx3:=t3.own bx2 (fun e=>by have e:lx=W.heap.size+1:=e;omega)
  have b3:Below W.heap.size W (putV w2 (W.heap.size+1) kd at_):=b2.trans (t3.below (fun j _ hj=>by have hj:j=W.heap.size+1:=hj;omega) b2.size)
  have hgo:=h.go
  rw[goP_byte st n l k c rest hc] at hgo
  have ef:(byteP st n k c).2.1=if (takeAll n (stepL st k c).1).2.2≠0 then (takeAll n (stepL st k c).1).2.2 else if (stepL st k c).2.1=8∧(takeAll n (stepL st k c).1).1.may.isNothing=true then 9 else (stepL st k c).2.1:=rfl
  have ee:(byteP st n k c).1=(takeAll n (stepL st k c).1).2.1:=rfl
  have hfit:=byteP_fit st n k c h.fit
  have ekd:kd=(byteP st n k c).2.1:=by
    by_cases hf:(takeAll n (stepL st k c).1).2.2=0
    ·rw[ef,if_neg (fun hh=>hh hf)]
     exact (h0 hf).1
    ·rw[ef,if_pos hf]
     exact (hF hf).1
  have hbl:bldA ⟨[],none⟩ (es++(takeAll n (stepL st k c).1).2.1)=bldA bl (takeAll n (stepL st k c).1).2.1:=by rw[bldA_app,h.bl_]
  refine ⟨kd,at_,rfl,bx2,b2,r82,?_,?_⟩
  ·by_cases hz:kd=0
   ·have hb0:(byteP st n k c).2.1=0:=ekd.symm.trans hz
    have hf:(takeAll n (stepL st k c).1).2.2=0:=by
      by_cases hf:(takeAll n (stepL st k c).1).2.2=0
      ·exact hf
      ·rw[ef,if_pos hf] at hb0;exact absurd hb0 hf
    obtain ⟨a1,a2,a3,a4⟩:=h0 hf
    have hr0:(stepL st k c).2.1=0:=by
      rw[hz] at a1
      by_cases h8:(stepL st k c).2.1=8∧(takeAll n (stepL st k c).1).1.may.isNothing=true
      ·rw[if_pos h8] at a1;cases a1
      ·rw[if_neg h8] at a1;exact a1.symm
    rw[if_pos hr0] at a2 l1
    rw[if_pos hr0] at l1
    subst a2 hz
    rw[if_neg (fun hh=>hh hb0)] at hgo
    obtain ⟨k1,k2,k3⟩:=takeAll_keeps l _ _ _ _ _ _ _ h.inv sp wf h.many hf
    rw[hq hr0] at k1
    have lx3:=((l1.mono (G:=fun j=>(FL j∨wr.heap.size≤j)∧j<w1.heap.size) (fun j hj hh=>⟨hh,hj⟩)).stay t2 (fun j _ hj hh=>by
      rcases hj.1 with hj1|hj1
      ·exact hh.elim (h.apart j hj1).1 (h.apart j hj1).2
      ·have:=(h.mach.bnd j hh).2.1;omega)).stay t3 (fun j _ hj e=>by
       have e:j=W.heap.size+1:=e
       rcases hj.1 with hj1|hj1
       ·have:=(h.lbnd j hj1).1;omega
       ·omega)
    refine .inl ⟨k+1,_,_,_,s',es++(takeAll n (stepL st k c).1).2.1,_,FN',FM',hk,M3,bx3,low,lx3,fun j hj => ?_,fun j hj=>⟨fun hn => ?_,fun hm => ?_⟩,⟨fun hn => ?_,fun hm => ?_⟩,hfit.2 hb0,k1,inv' hr0,stepL_short st k c h.short,a3,a4,fun o ho => ?_,by rw[k3];exact h.most,?_,hbl.symm,?_,b3,r63,r83⟩
    ·rcases hj.1 with hj1|hj1
     ·obtain ⟨x1,x2,x3,x4⟩:=h.lbnd j hj1
      exact ⟨x1,by omega,x3,x4⟩
     ·exact ⟨by omega,by omega,by omega,by omega⟩
    ·rcases hsub j (.inl hn) with g1|g1|g1
     ·rcases hj.1 with hj1|hj1
      ·exact (h.apart j hj1).1 g1
      ·have:=(h.mach.bnd j (.inl g1)).2.1;omega
     ·rcases hj.1 with hj1|hj1
      ·exact (h.apart j hj1).2 g1
      ·have:=(h.mach.bnd j (.inr g1)).2.1;omega
     ·have:=hj.2;omega
    ·rcases hsub j (.inr hm) with g1|g1|g1
     ·rcases hj.1 with hj1|hj1
      ·exact (h.apart j hj1).1 g1
      ·have:=(h.mach.bnd j (.inl g1)).2.1;omega
     ·rcases hj.1 with hj1|hj1
      ·exact (h.apart j hj1).2 g1
      ·have:=(h.mach.bnd j (.inr g1)).2.1;omega
     ·have:=hj.2;omega
    ·rcases hsub lx (.inl hn) with g1|g1|g1
     ·exact h.lxF.1 g1
     ·exact h.lxF.2 g1
     ·omega
    ·rcases hsub lx (.inr hm) with g1|g1|g1
     ·exact h.lxF.1 g1
     ·exact h.lxF.2 g1
     ·omega
    ·have:=k2 o ho;omega
    ·have:=h.size;omega
    ·rw[hgo,ee,← List.append_assoc]
     rfl
   ·have hb0:(byteP st n k c).2.1≠0:=fun hh=>hz (ekd.trans hh)
    rw[if_pos hb0] at hgo
    have eat:at_=k:=by
      by_cases hf:(takeAll n (stepL st k c).1).2.2=0
      ·obtain ⟨a1,a2,_,_⟩:=h0 hf
       rw[a2,if_neg]
       intro hr0
       rw[hr0,if_neg (by rintro ⟨h,_⟩;cases h)] at a1
       exact hz a1
      ·exact (hF hf).2.trans (faultAt_k st n k c h.fit hf)
    have hfk:=hfit.1 hb0
    rw[← ekd] at hfk hgo
    subst eat
    refine .inr ⟨kd,at_,hfk.2.1,by rw[hgo],hz,⟨FM',?_⟩,fun hh=>absurd hh hfk.2.1,b3,r63,r83⟩
    rw[hgo]
    show BIs _ _ _ (bldA ⟨[],none⟩ (es++(byteP st n at_ c).1))
    rw[ee,hbl]
    exact M3.bs
  ·by_cases hz:kd=0
   ·refine .inr ?_
    have hb0:(byteP st n k c).2.1=0:=ekd.symm.trans hz
    have hf:(takeAll n (stepL st k c).1).2.2=0:=by
      by_cases hf:(takeAll n (stepL st k c).1).2.2=0
      ·exact hf
      ·rw[ef,if_pos hf] at hb0;exact absurd hb0 hf
    obtain ⟨a1,a2,_,_⟩:=h0 hf
    have hr0:(stepL st k c).2.1=0:=by
      rw[hz] at a1
      by_cases h8:(stepL st k c).2.1=8∧(takeAll n (stepL st k c).1).1.may.isNothing=true
      ·rw[if_pos h8] at a1;cases a1
      ·rw[if_neg h8] at a1;exact a1.symm
    rw[a2,if_pos hr0]
   ·exact .inl hz
theorem part_close (h:RunPa l d W wr lx nx nb k st n bl s es FL FN FM) (hT:Tab W) (hl:l.length≤100000000) (hk:k=l.length) {w1:World} {v:Value} (hv:TRow w1 wr.heap.size v (closeL st k).1) (t1:Touch FL wr w1)
   (l1:LexIs w1 (W.heap.size+3) (fun j=>FL j∨wr.heap.size≤j) k .dead) :
   Calls Tryz.prog 16 #[v,.int .i64 (closeL st k).2,.pointer (some ⟨nx,0,none⟩),.pointer (some ⟨W.heap.size+2,0,none⟩),.pointer (some ⟨lx,0,none⟩)] w1 fun e w2=>e=.returned (.agg #[.int .i64 (closeL st k).2,.int .i64 k]) ∧
     ∃ (n':Nst) (FN':Nat→Prop),Own w2 nx 50 #[.pointer (some ⟨nb,0,none⟩)]∧NIs w2 nb FN' n'∧(∀ j,FN' j→W.heap.size+2≤j)∧W.heap.size+2≤nx∧n'.may.isBroken=false∧CI n'∧Own w2 (W.heap.size+1) 29 #[.int .i64 0,.int .i64 k]∧((closeL st k).2=1∨(closeL st k).2=10) ∧
       ∀ (kd:Int) (w3:World),Touch (fun q=>q=W.heap.size+1) w2 w3→Own w3 (W.heap.size+1) 29 #[.int .i64 kd,.int .i64 k]→kd=(if (closeL st k).2≠1 then (closeL st k).2 else closeN n')→StopPa l d W w3 kd k:=by
 have hal:=fit_alive h.fit
 have hlb:=h.lex.has
 have M1:=h.mach.move t1 (fun q hq hf=>hq.elim (h.apart q hf).1 (h.apart q hf).2) (fun hf=>(h.lbnd nx hf).2.2.2 rfl)
 have b1:Below W.heap.size W w1:=h.bel.trans (t1.below (fun j _ hj=>by have:=(h.lbnd j hj).1;omega) h.bel.size)
 have hT1:=hT.stay b1 (hT.elim fun _ h=>h.inside)
 have hInv:=h.invT
 rw[hk] at hInv
 obtain ⟨s',sp,_,_⟩:=close_ok l st s hInv
 rw[← hk] at sp
 obtain ⟨q,wf⟩:=closeL_wf st k hal
 have h2:=(closeL_one st k).1
 have bx1:=t1.own h.box (fun hf=>(h.lbnd lx hf).2.2.1 rfl)
 have hs1:=t1.size
 have r81:=t1.own h.res8 (fun hf=>by have:=(h.lbnd _ hf).1;omega)
 have r61:=t1.own h.res6 (fun hf=>by have:=(h.lbnd _ hf).1;omega)
 have hnx:=h.mach.on.inside
 have hlbw:=h.lex.inside
 obtain ⟨hcl,hkind⟩:=closing st n k h.fit
 refine (take_part l (closeL st k).2 M1 hT1 (by omega) (by omega) h.inv sp wf h.pb h.ci h.many (by omega) h.most (by have:=h.size;omega) hv (fun g hg => ?_) h2 bx1 h.lxF (lex_cell l1) (h.apart _ hlb)).mono ?_
 ·have hg:=(hv.low hg).1
  exact ⟨fun hf=>by have:=(h.mach.bnd g (.inl hf)).2.1;omega,fun hf=>by have:=(h.mach.bnd g (.inr hf)).2.1;omega⟩
 ·rintro e w2 ⟨kd,at_,FN',FM',rfl,hF,h0,M2,hsub,t2,hsz⟩
  obtain ⟨a1,rfl,a3,a4⟩:=h0 hcl
  have a1:kd=(closeL st at_).2:=by
    rw[a1,if_neg]
    rintro ⟨h8,_⟩
    rcases hkind with e|e<;>(rw[e] at h8;cases h8)
  subst a1
  have no2:∀ q,q<W.heap.size+2→¬ (FN q∨FM q):=fun q hq hf=>by have:=(h.mach.bnd q hf).1;omega
  have b2:Below W.heap.size W w2:=b1.trans (t2.below (fun j _ hj=>by have:=(h.mach.bnd j hj).1;omega) b1.size)
  have r82:=t2.own r81 (no2 _ (by omega))
  have r62:=t2.own r61 (no2 _ (by omega))
  have hgo:=h.go
  have hd:l.drop at_=[]:=by rw[hk];exact List.drop_length
  rw[hd] at hgo
  have hgo:parseP l d=(es++(takeAll n (closeL st at_).1).2.1,(endP st n at_).2,at_):=hgo
  have hbl:bldA ⟨[],none⟩ (es++(takeAll n (closeL st at_).1).2.1)=bldA bl (takeAll n (closeL st at_).1).2.1:=by rw[bldA_app,h.bl_]
  have hbr:(takeAll n (closeL st at_).1).1.may.isBroken=false:=by rw[← bad_broken];exact a3.j.bad
  refine ⟨rfl,_,FN',M2.on,M2.ns,fun j hj=>(M2.bnd j (.inl hj)).1,h.low.2,hbr,a4,r82,hkind,fun kd w3 t3 r83 ekd => ?_⟩
  have eend:(endP st n at_).2=kd:=ekd.symm
  have hek:=endP_kind st n at_ h.fit
  have M3:=M2.move t3 (fun q hq e=>by have:=(M2.bnd q hq).1;have e:q=W.heap.size+1:=e;omega) (fun e=>by have e:nx=W.heap.size+1:=e;have:=h.low;omega)
  rw[eend] at hek hgo
  have e1:(parseP l d).1=es++(takeAll n (closeL st at_).1).2.1:=by rw[hgo]
  refine ⟨by rw[hgo],fun hh=>(by rw[hh] at hek;rcases hek with e|e|e<;>exact absurd e (by decide)),⟨FM',?_⟩,fun hh => ?_,b2.trans (t3.below (fun j _ hj=>by have hj:j=W.heap.size+1:=hj;omega) b2.size),t3.own r62 (fun e=>by have e:W.heap.size=W.heap.size+1:=e;omega),r83⟩
  ·rw[e1,hbl]
   exact M3.bs
  ·rw [e1,hbl]
   refine built_whole a3 ?_
   rcases hkind with e|e
   ·rw[e] at ekd
    rw[← hh,ekd]
    simp
   ·rw[e] at ekd
    rw[ekd] at hh
    cases hh
end
theorem StopPa.now {l:List UInt8} {d:Int} {W w:World} {kd:Int} {at_:Nat} (h:StopPa l d W w kd at_) (hl:l.length≤100000000):Calls Tryz.prog 24 #[.pointer (some ⟨W.heap.size+2,0,none⟩)] w fun e w' => ∃ (yk:Int) (yf yt:Nat) (yx:List UInt8) (yA:Option Addr) (yn yc:Nat) (yB:Option Addr) (ym yd:Nat) (o:Bool),
   e=.returned (.tuple #[.agg #[.int .i64 yk,.int .i64 yf,.int .i64 yt,.string ⟨yx.toArray⟩,.slice yA yn yc,.slice yB ym yd],.bool o])∧Below w.heap.size w w'∧(kd=1 → ∀ w'',w'.heap.size≤w''.heap.size→(∀ q,w.heap.size≤q→q<w'.heap.size→w''.heap[q]?=w'.heap[q]?)→VIs w'' (treeP l d) ⟨yk,yf,yt,yx,yA,yn,yc,yB,ym,yd⟩):=by
 obtain ⟨FM,hb⟩:=h.bs
 have h1:(parseP l d).1.length≤2*l.length+2:=goP_len l .out (newN d) 0
 have h2:=bldA_size (parseP l d).1 ⟨[],none⟩
 have h0:szB ⟨[],none⟩=0:=rfl
 refine (Now_bld hb (by omega)).mono ?_
 rintro e w' ⟨⟨yk,yf,yt,yx,yA,yn,yc,yB,ym,yd⟩,o,rfl,hv,hbel⟩
 refine ⟨yk,yf,yt,yx,yA,yn,yc,yB,ym,yd,o,rfl,hbel,fun h1 w9 hs hk => ?_⟩
 obtain ⟨t,ht⟩:=h.one h1
 have e:treeP l d=t:=by unfold treeP treeE;rw[ht];rfl
 rw[e]
 exact hv t ht w9 hs hk
end
section
open Go.RowKit
def PartEnd (l:List UInt8) (d:Int) (W:World) (e:Ending) (w':World):Prop:=∃ (yk:Int) (yf yt:Nat) (yx:List UInt8) (yA:Option Addr) (yn yc:Nat) (yB:Option Addr) (ym yd:Nat) (o:Bool),
 e = .returned (.tuple #[.agg #[.int .i64 yk,.int .i64 yf,.int .i64 yt,.string ⟨yx.toArray⟩,.slice yA yn yc,.slice yB ym yd],.bool o,.agg #[.int .i64 (parseP l d).2.1,.int .i64 (parseP l d).2.2]]) ∧
   ((parseP l d).2.1=1 → ∀ w'',w'.heap.size≤w''.heap.size→(∀ q,W.heap.size≤q→q<w'.heap.size→w''.heap[q]?=w'.heap[q]?)→VIs w'' (treeP l d) ⟨yk,yf,yt,yx,yA,yn,yc,yB,ym,yd⟩)∧Below W.heap.size W w'
theorem run_start (l:List UInt8) (d:Int) (h1:1≤d) (h2:d≤1000) (W w2 w4:World) (nb:Nat)
   (hn:NIs w2 nb (fun j=>((((W.alloc (.cells zeroV.toArray 27)).alloc (.cells #[.int .i64 0,.int .i64 0] 29)).alloc (.cells #[.pointer none,.slice none 0 0] 47)).alloc (.cells (LZ 0 false).toArray 98)).heap.size≤j) (newN d))
   (hb:Below ((((W.alloc (.cells zeroV.toArray 27)).alloc (.cells #[.int .i64 0,.int .i64 0] 29)).alloc (.cells #[.pointer none,.slice none 0 0] 47)).alloc (.cells (LZ 0 false).toArray 98)).heap.size ((((W.alloc (.cells zeroV.toArray 27)).alloc (.cells #[.int .i64 0,.int .i64 0] 29)).alloc (.cells #[.pointer none,.slice none 0 0] 47)).alloc (.cells (LZ 0 false).toArray 98)) w2)
   (h4:w4=(w2.alloc (.cells #[.pointer (some ⟨W.heap.size+3,0,none⟩)] 48)).alloc (.cells #[.pointer (some ⟨nb,0,none⟩)] 50)) :
   RelPa l d W w2.heap.size (w2.heap.size+1) nb w4:=by
 have z1:(W.alloc (.cells zeroV.toArray 27)).heap.size=W.heap.size+1:=by simp
 have z2:((W.alloc (.cells zeroV.toArray 27)).alloc (.cells #[.int .i64 0,.int .i64 0] 29)).heap.size=W.heap.size+2:=by simp
 have z3:(((W.alloc (.cells zeroV.toArray 27)).alloc (.cells #[.int .i64 0,.int .i64 0] 29)).alloc (.cells #[.pointer none,.slice none 0 0] 47)).heap.size=W.heap.size+3:=by simp
 have z4:((((W.alloc (.cells zeroV.toArray 27)).alloc (.cells #[.int .i64 0,.int .i64 0] 29)).alloc (.cells #[.pointer none,.slice none 0 0] 47)).alloc (.cells (LZ 0 false).toArray 98)).heap.size=W.heap.size+4:=by simp
 have o6:=(((Own.fresh W 27 zeroV.toArray).over (.cells #[.int .i64 0,.int .i64 0] 29)).over (.cells #[.pointer none,.slice none 0 0] 47)).over (.cells (LZ 0 false).toArray 98)
 have o8:=((Own.fresh (W.alloc (.cells zeroV.toArray 27)) 29 #[.int .i64 0,.int .i64 0]).over (.cells #[.pointer none,.slice none 0 0] 47)).over (.cells (LZ 0 false).toArray 98)
 have oB:=BIs.start ((W.alloc (.cells zeroV.toArray 27)).alloc (.cells #[.int .i64 0,.int .i64 0] 29))
 have oL:=Own.fresh (((W.alloc (.cells zeroV.toArray 27)).alloc (.cells #[.int .i64 0,.int .i64 0] 29)).alloc (.cells #[.pointer none,.slice none 0 0] 47)) 98 (LZ 0 false).toArray
 have bw:Below W.heap.size W ((((W.alloc (.cells zeroV.toArray 27)).alloc (.cells #[.int .i64 0,.int .i64 0] 29)).alloc (.cells #[.pointer none,.slice none 0 0] 47)).alloc (.cells (LZ 0 false).toArray 98)) :=
   (((((Below.refl _ _).alloc (Nat.le_refl _) _).alloc (by omega) _).alloc (by omega) _).alloc (by omega) _)
 have bL:Touch (fun _=>False) (((W.alloc (.cells zeroV.toArray 27)).alloc (.cells #[.int .i64 0,.int .i64 0] 29)).alloc (.cells #[.pointer none,.slice none 0 0] 47)) ((((W.alloc (.cells zeroV.toArray 27)).alloc (.cells #[.int .i64 0,.int .i64 0] 29)).alloc (.cells #[.pointer none,.slice none 0 0] 47)).alloc (.cells (LZ 0 false).toArray 98)):=Touch.of_new ((Below.refl _ _).alloc (Nat.le_refl _) _)
 have oB:=oB.move bL (fun _ _ _ h=>h)
 rw[z1] at o8
 rw[z2] at oB
 rw[z3] at oL
 generalize ((((W.alloc (.cells zeroV.toArray 27)).alloc (.cells #[.int .i64 0,.int .i64 0] 29)).alloc (.cells #[.pointer none,.slice none 0 0] 47)).alloc (.cells (LZ 0 false).toArray 98))=wL at *
 have t2:Touch (fun _=>False) wL w2:=Touch.of_new hb
 have s2:=hb.size
 have t4:Touch (fun _=>False) w2 w4:=by subst h4;exact Touch.of_new (((Below.refl _ _).alloc (Nat.le_refl _) _).alloc (by simp) _)
 have s4:w4.heap.size=w2.heap.size+2:=by subst h4;simp
 have bx:Own w4 w2.heap.size 48 #[.pointer (some ⟨W.heap.size+3,0,none⟩)]:=by subst h4;exact (Own.fresh _ _ _).over _
 have nx:Own w4 (w2.heap.size+1) 50 #[.pointer (some ⟨nb,0,none⟩)]:=by
   subst h4
   have:=Own.fresh (w2.alloc (.cells #[.pointer (some ⟨W.heap.size+3,0,none⟩)] 48)) 50 #[.pointer (some ⟨nb,0,none⟩)]
   rwa [show (w2.alloc (.cells #[.pointer (some ⟨W.heap.size+3,0,none⟩)] 48)).heap.size=w2.heap.size+1 by simp] at this
 have n4:NIs w4 nb (fun j=>W.heap.size+4≤j∧j<w2.heap.size) (newN d):=(hn.mono (G:=fun j=>W.heap.size+4≤j∧j<w2.heap.size) (fun j hj h=>⟨by rw[z4] at h;exact h,hj⟩)).move t4 (fun _ _ _ h=>h)
 have no:∀ q:Nat,¬ False:=fun _ h=>h
 refine .inl ⟨0,.out,newN d,⟨[],none⟩,(0,none),[],fun j=>j=W.heap.size+3,fun j=>W.heap.size+4≤j∧j<w2.heap.size,fun j=>j=W.heap.size+2,Nat.zero_le _,⟨nx,n4,(oB.move t2 (fun _ _ _ h=>h)).move t4 (fun _ _ _ h=>h),fun k hk hm => ?_,fun k hk => ?_⟩,bx,⟨by omega,by omega⟩,⟨rfl,t4.own (t2.own oL (no 0)) (no 0)⟩,fun j hj => ?_,fun j hj=>⟨fun hn => ?_,fun hm => ?_⟩,⟨fun hn => ?_,fun hm => ?_⟩,fit_start d,InvN.start d,⟨rfl,Nat.le_refl _,fun m h1 h2=>by omega⟩,trivial,PB.start d,CI.start d,fun o ho=>(by cases ho),?_,Nat.le_refl _,rfl,rfl,?_,t4.own (t2.own o6 (no 0)) (no 0),t4.own (t2.own o8 (no 0)) (no 0)⟩
 ·omega
 ·rcases hk with ⟨x1,x2⟩|rfl
  ·exact ⟨by omega,by omega,by omega⟩
  ·exact ⟨by omega,by omega,by omega⟩
 ·subst hj;exact ⟨by omega,by omega,by omega,by omega⟩
 ·subst hj;have:=hn.1;omega
 ·have hm:j=W.heap.size+2:=hm;omega
 ·have:=hn.2;omega
 ·have hm:w2.heap.size=W.heap.size+2:=hm;omega
 ·show (if d<1 then 1 else d.toNat)≤4990
  split<;>omega
 ·exact (bw.trans (t2.below (fun _ _ h=>h.elim) (by omega))).trans (t4.below (fun _ _ h=>h.elim) (by omega))
end
end Go.Proofs.YtbpilcklglhloaaGreatDoor
