/- Lemmas. -/
import Derived.Test.YtbpilcklglhloaaGreatDoorJ10
import Derived.Laws.Strings
set_option maxRecDepth 100000
set_option maxHeartbeats 8000000
set_option linter.unusedVariables false
namespace Go.Proofs.YtbpilcklglhloaaGreatDoor
section
open Go.RowKit
def lT:List UInt8:=[116,114,117,101]
def lF:List UInt8:=[102,97,108,115,101]
def lN:List UInt8:=[110,117,108,108]
def hit (lw l:List UInt8):Int:=if l=lw then 1 else if l.length<lw.length∧lw.take l.length=l then 0 else 2
def refL (l:List UInt8):Int:=if hit lT l=2 then (if hit lF l=2 then hit lN l else hit lF l) else hit lT l
theorem ba_ext {a b:ByteArray} (h:a.data.toList=b.data.toList):a=b:=by
 cases a with|mk x=>cases b with|mk y=>exact congrArg ByteArray.mk (Array.toList_inj.1 h)
theorem str_ne {a b:ByteArray}(h:a≠b):(a.toList==b.toList)=false:=beq_eq_false_iff_ne.2 fun e=>h (ba_ext (by rw[← ByteArray.toList_eq,← ByteArray.toList_eq,e]))
theorem head_list (s:ByteArray) (k:Nat):(s.extract 0 k).data.toList=s.data.toList.take k:=by
 rw[ByteArray.data_extract,Array.toList_extract,List.extract_eq_take_drop]
 simp
theorem cat_list (s t:ByteArray):(s++t).data.toList=s.data.toList++t.data.toList:=by simp
theorem hit_one {lw l:List UInt8} (h:hit lw l=1):l=lw:=by
 unfold hit at h
 split at h
 ·assumption
 ·split at h<;>cases h
theorem ref_one {l:List UInt8} (h:refL l=1):l=lT∨l=lF∨l=lN:=by
 unfold refL at h
 split at h
 ·split at h
  ·exact .inr (.inr (hit_one h))
  ·exact .inr (.inl (hit_one h))
 ·exact .inl (hit_one h)
def StL (t:ByteArray)(k:Nat):Prop:=(k=0∧t=⟨#[]⟩)∨((t=wT∨t=wF∨t=wN)∧1≤k∧k≤t.size)
theorem refT1 (c:UInt8):refL [116,c]=if 114=c then 0 else 2:=by
 by_cases hc:114=c
 ·subst hc;decide
 ·rw[if_neg hc]
  simp[refL,hit,lT,lF,lN,hc,Ne.symm hc]
theorem refT2 (c:UInt8):refL [116,114,c]=if 117=c then 0 else 2:=by
 by_cases hc:117=c
 ·subst hc;decide
 ·rw[if_neg hc]
  simp[refL,hit,lT,lF,lN,hc,Ne.symm hc]
theorem refT3 (c:UInt8):refL [116,114,117,c]=if 101=c then 1 else 2:=by
 by_cases hc:101=c
 ·subst hc;decide
 ·rw[if_neg hc]
  simp[refL,hit,lT,lF,lN,hc,Ne.symm hc]
theorem refT4 (c:UInt8):refL [116,114,117,101,c]=2:=by
 simp[refL,hit,lT,lF,lN]
theorem refF1 (c:UInt8):refL [102,c]=if 97=c then 0 else 2:=by
 by_cases hc:97=c
 ·subst hc;decide
 ·rw[if_neg hc]
  simp[refL,hit,lT,lF,lN,hc,Ne.symm hc]
theorem refF2 (c:UInt8):refL [102,97,c]=if 108=c then 0 else 2:=by
 by_cases hc:108=c
 ·subst hc;decide
 ·rw[if_neg hc]
  simp[refL,hit,lT,lF,lN,hc,Ne.symm hc]
theorem refF3 (c:UInt8):refL [102,97,108,c]=if 115=c then 0 else 2:=by
 by_cases hc:115=c
 ·subst hc;decide
 ·rw[if_neg hc]
  simp[refL,hit,lT,lF,lN,hc,Ne.symm hc]
theorem refF4 (c:UInt8):refL [102,97,108,115,c]=if 101=c then 1 else 2:=by
 by_cases hc:101=c
 ·subst hc;decide
 ·rw[if_neg hc]
  simp[refL,hit,lT,lF,lN,hc,Ne.symm hc]
theorem refF5 (c:UInt8):refL [102,97,108,115,101,c]=2:=by
 simp[refL,hit,lT,lF,lN]
theorem refN1 (c:UInt8):refL [110,c]=if 117=c then 0 else 2:=by
 by_cases hc:117=c
 ·subst hc;decide
 ·rw[if_neg hc]
  simp[refL,hit,lT,lF,lN,hc,Ne.symm hc]
theorem refN2 (c:UInt8):refL [110,117,c]=if 108=c then 0 else 2:=by
 by_cases hc:108=c
 ·subst hc;decide
 ·rw[if_neg hc]
  simp[refL,hit,lT,lF,lN,hc,Ne.symm hc]
theorem refN3 (c:UInt8):refL [110,117,108,c]=if 108=c then 1 else 2:=by
 by_cases hc:108=c
 ·subst hc;decide
 ·rw[if_neg hc]
  simp[refL,hit,lT,lF,lN,hc,Ne.symm hc]
theorem refN4 (c:UInt8):refL [110,117,108,108,c]=2:=by
 simp[refL,hit,lT,lF,lN]
theorem ref_in (t:ByteArray) (ht:t=wT∨t=wF∨t=wN) (k:Nat) (h1:1≤k) (h2:k≤t.size) (c:UInt8) :
   refL (t.data.toList.take k++[c])=if h:k<t.size then (if t[k]=c then (if k+1=t.size then 1 else 0) else 2) else 2:=by
 rcases ht with rfl|rfl|rfl
 ·rw[zT] at h2
  have hk:k=1∨k=2∨k=3∨k=4:=by omega
  rcases hk with rfl|rfl|rfl|rfl
  ·exact refT1 c
  ·exact refT2 c
  ·exact refT3 c
  ·exact refT4 c
 ·rw[zF] at h2
  have hk:k=1∨k=2∨k=3∨k=4∨k=5:=by omega
  rcases hk with rfl|rfl|rfl|rfl|rfl
  ·exact refF1 c
  ·exact refF2 c
  ·exact refF3 c
  ·exact refF4 c
  ·exact refF5 c
 ·rw[zN] at h2
  have hk:k=1∨k=2∨k=3∨k=4:=by omega
  rcases hk with rfl|rfl|rfl|rfl
  ·exact refN1 c
  ·exact refN2 c
  ·exact refN3 c
  ·exact refN4 c
def WalkAt (w:World)(b:Nat)(P:ByteArray):Prop:=∃ (t:ByteArray) (k:Nat),StL t k∧P=t.extract 0 k∧Own w b 96 #[.string t,.int .i64 k]
theorem WalkAt.stay {w w':World} {b B:Nat} {P:ByteArray} (h:WalkAt w b P) (hb:Below B w w') (hB:b<B):WalkAt w' b P:=by
 obtain ⟨t,k,h1,h2,h3⟩:=h
 exact ⟨t,k,h1,h2,h3.stay hb hB⟩
theorem WalkAt.inside {w:World} {b:Nat} {P:ByteArray} (h:WalkAt w b P):b<w.heap.size:=by
 obtain ⟨t,k,h1,h2,h3⟩:=h
 exact h3.inside
theorem WalkAt.drewN {w:World}{b:Nat}{P:ByteArray}(h:WalkAt w b P)(q:Nat):WalkAt (w.drewN q) b P:=h
theorem WalkAt.fresh (w:World):WalkAt (w.alloc (.cells #[.string ⟨#[]⟩,.int .i64 0] 96)) w.heap.size ⟨#[]⟩:=⟨⟨#[]⟩,0,.inl ⟨rfl,rfl⟩,by decide,Own.fresh _ _ _⟩
theorem word_sizes {t:ByteArray} (h:t=wT∨t=wF∨t=wN):3<t.size∧t.size≤5:=by
 rcases h with rfl|rfl|rfl<;>decide
theorem kind_t (W:World) (h:Tab W) :
   Calls Tryz.prog 101 #[.string wT] W fun e w'=>e=.returned (.tuple #[.int .i64 1,.bool true])∧Below W.heap.size W w':=by
 obtain ⟨c0,c1,c2,c3,c4,c5⟩:=h.cells
 have i0:=at0
 go_enter Tryz.func101,Tryz.ntmps101
 go_wp2
 refine wp_loop_rounds 4 ?_
 rw[rounds_succ]
 go_wp2
 go_ret2
 exact ⟨rfl,(Below.refl _ _).alloc (Nat.le_refl _) _⟩
theorem kind_f (W:World) (h:Tab W) :
   Calls Tryz.prog 101 #[.string wF] W fun e w'=>e=.returned (.tuple #[.int .i64 1,.bool true])∧Below W.heap.size W w':=by
 obtain ⟨c0,c1,c2,c3,c4,c5⟩:=h.cells
 have i0:=at0
 have i1:=at1
 have g1:(wT.toList==wF.toList)=false:=str_ne (by decide)
 go_enter Tryz.func101,Tryz.ntmps101
 go_wp2
 refine wp_loop_rounds 4 ?_
 rw[rounds_succ]
 go_wp2
 rw[rounds_succ]
 go_wp2
 go_ret2
 exact ⟨rfl,below2 _ _ _⟩
theorem kind_n (W:World) (h:Tab W) :
   Calls Tryz.prog 101 #[.string wN] W fun e w'=>e=.returned (.tuple #[.int .i64 0,.bool true])∧Below W.heap.size W w':=by
 obtain ⟨c0,c1,c2,c3,c4,c5⟩:=h.cells
 have i0:=at0
 have i1:=at1
 have i2:=at2
 have g1:(wT.toList==wN.toList)=false:=str_ne (by decide)
 have g2:(wF.toList==wN.toList)=false:=str_ne (by decide)
 go_enter Tryz.func101,Tryz.ntmps101
 go_wp2
 refine wp_loop_rounds 4 ?_
 rw[rounds_succ]
 go_wp2
 rw[rounds_succ]
 go_wp2
 rw[rounds_succ]
 go_wp2
 go_ret2
 exact ⟨rfl,below3 _ _ _ _⟩
end
section
open Go.RowKit
structure Tok where
 kind:Int
 begun:Bool
 fr:Nat
 to:Nat
 text:List UInt8
inductive LSt where
 | out
 | num (a:Int) (f:Nat) (p:List UInt8)
 | word (f:Nat) (p:List UInt8)
 | str (q:QSt) (f:Nat) (acc:List UInt8)
 | dead
def outL (k:Nat) (c:UInt8):List Tok×Int×LSt :=
 if kindI c.toNat=1 then ([],0,.out) else if kindI c.toNat=0 then ([],8,.dead) else if kindI c.toNat<8 then ([⟨kindI c.toNat,false,k,k+1,[]⟩],0,.out) else
 if kindI c.toNat=8 then ([⟨8,true,k,k,[]⟩],0,.str .plain k []) else if kindI c.toNat=9 then ([⟨9,true,k,k,[]⟩],0,.num (nxI 0 c.toNat) k [c]) else ([⟨10,true,k,k,[]⟩],0,.word k [c])
def strL (q:QSt) (f:Nat) (acc:List UInt8) (k:Nat) (c:UInt8):Option (QSt×List UInt8)→List Tok×Int×LSt
 | none=>([],faultQ q c,.dead)
 | some (.done,e)=>([⟨8,false,f,k+1,acc++e⟩],0,.out)
 | some (q',e)=>([],0,.str q' f (acc++e))
def stepL:LSt→Nat→UInt8→List Tok×Int×LSt
 | .out,k,c=>outL k c
 | .num a f p,k,c=>if nxI a c.toNat≠0 then ([],0,.num (nxI a c.toNat) f (p++[c])) else
     if whI a && !stickI c.toNat then (⟨9,false,f,k,p⟩ :: (outL k c).1,(outL k c).2.1,(outL k c).2.2) else ([],5,.dead)
 | .word f p,k,c=>if refL (p++[c])=2 then ([],6,.dead) else if refL (p++[c])=1 then ([⟨10,false,f,k+1,p++[c]⟩],0,.out) else ([],0,.word f (p++[c]))
 | .str q f acc,k,c=>strL q f acc k c (stepQ q c)
 | .dead,_,_=>([],14,.dead)
def closeL:LSt→Nat→List Tok×Int
 | .out,_=>([],1)
 | .num a f p,k=>if whI a then ([⟨9,false,f,k,p⟩],1) else ([],10)
 | .dead,_=>([],14)
 | _,_=>([],10)
def blankC (c:UInt8):Prop:=c=32∨c=9∨c=10∨c=13
def AllBlank (b:List UInt8)(i j:Nat):Prop:=∀ m,i≤m→m<j → ∃ c,b[m]?=some c∧blankC c
def okTok (b:List UInt8) (s:Nat×Option Nat) (t:Tok):Prop :=
 if t.begun then s.2=none∧s.1≤t.fr∧t.to=t.fr∧t.fr<b.length
 else (s.2=none∨s.2=some t.fr)∧s.1≤t.fr∧t.fr<t.to∧t.to≤b.length∧AllBlank b s.1 t.fr
def nextTok (s:Nat×Option Nat)(t:Tok):Nat×Option Nat:=if t.begun then (s.1,some t.fr) else (t.to,none)
def Spans (b:List UInt8):List Tok→Nat×Option Nat→Nat×Option Nat→Prop
 | [],s,s'=>s=s'
 | t :: ts,s,s'=>okTok b s t∧Spans b ts (nextTok s t) s'
def InvT (b:List UInt8) (st:LSt) (k:Nat) (s:Nat×Option Nat):Prop:=match st with
 | .out=>s.2=none∧s.1≤k∧AllBlank b s.1 k
 | .num _ f _=>s.2=some f∧s.1≤f∧f<k∧AllBlank b s.1 f
 | .word f _=>s.2=some f∧s.1≤f∧f<k∧AllBlank b s.1 f
 | .str _ f _=>s.2=some f∧s.1≤f∧f<k∧AllBlank b s.1 f
 | .dead=>False
theorem ite_both {p:Prop}[Decidable p]{a b:Int}{P:Int→Prop}(ha:P a)(hb:P b):P (if p then a else b):=by split<;>assumption
theorem kind_blank {c:UInt8} (h:kindI c.toNat=1):blankC c:=by
 have e:∀ n:Nat,n<256→(c.toNat:Int)=n→c=UInt8.ofNat n:=fun n hn e=>by
   have:c.toNat=n:=by omega
   rw[← this];simp
 unfold blankC
 by_cases h1:(c.toNat:Int)=32
 ·exact .inl (e 32 (by decide) h1)
 by_cases h2:(c.toNat:Int)=9
 ·exact .inr (.inl (e 9 (by decide) h2))
 by_cases h3:(c.toNat:Int)=10
 ·exact .inr (.inr (.inl (e 10 (by decide) h3)))
 by_cases h4:(c.toNat:Int)=13
 ·exact .inr (.inr (.inr (e 13 (by decide) h4)))
 unfold kindI at h
 rw[if_neg h1,if_neg h2,if_neg h3,if_neg h4] at h
 refine absurd h ?_
 iterate 12 (refine ite_both (P:=fun x:Int=>¬ x=1) (by decide) ?_)
 decide
def StepOk (b:List UInt8) (k:Nat) (s:Nat×Option Nat) (r:List Tok×Int×LSt):Prop :=
 ∃ s',Spans b r.1 s s'∧r.2.1≠1∧(r.2.1=0→InvT b r.2.2 (k+1) s')∧(r.2.1≠0→s'.1≤k)
theorem blank_more {b:List UInt8} {i k:Nat} (h:AllBlank b i k) {c:UInt8} (hc:b[k]?=some c) (hb:blankC c):AllBlank b i (k+1):=fun m h1 h2=>by
 by_cases hm:m=k
 ·subst hm;exact ⟨c,hc,hb⟩
 ·exact h m h1 (by omega)
theorem out_ok (b:List UInt8) (k:Nat) (c:UInt8) (hc:b[k]?=some c) (s:Nat×Option Nat) (h:InvT b .out k s):StepOk b k s (outL k c):=by
 obtain ⟨h1,h2,h3⟩:=h
 have hk:k<b.length:=(List.getElem?_eq_some_iff.1 hc).1
 unfold outL
 split
 ·rename_i hb
  exact ⟨s,rfl,(by show (0:Int)≠1;decide),fun _=>⟨h1,by omega,blank_more h3 hc (kind_blank hb)⟩,fun e=>absurd rfl e⟩
 split
 ·exact ⟨s,rfl,(by show (8:Int)≠1;decide),(fun e=>by cases e),fun _=>h2⟩
 split
 ·exact ⟨(k+1,none),⟨⟨.inl h1,h2,Nat.lt_succ_self _,hk,h3⟩,rfl⟩,(by show (0:Int)≠1;decide),fun _=>⟨rfl,Nat.le_refl _,fun m g1 g2=>absurd g2 (by simp at g1;omega)⟩,fun e=>absurd rfl e⟩
 split
 ·exact ⟨(s.1,some k),⟨⟨h1,h2,rfl,hk⟩,rfl⟩,(by show (0:Int)≠1;decide),fun _=>⟨rfl,h2,Nat.lt_succ_self _,h3⟩,fun e=>absurd rfl e⟩
 split
 ·exact ⟨(s.1,some k),⟨⟨h1,h2,rfl,hk⟩,rfl⟩,(by show (0:Int)≠1;decide),fun _=>⟨rfl,h2,Nat.lt_succ_self _,h3⟩,fun e=>absurd rfl e⟩
 ·exact ⟨(s.1,some k),⟨⟨h1,h2,rfl,hk⟩,rfl⟩,(by show (0:Int)≠1;decide),fun _=>⟨rfl,h2,Nat.lt_succ_self _,h3⟩,fun e=>absurd rfl e⟩
theorem blank_none (b:List UInt8)(k:Nat):AllBlank b k k:=fun m h1 h2=>absurd h2 (by omega)
theorem stepL_ok (b:List UInt8) (st:LSt) (k:Nat) (c:UInt8) (hc:b[k]?=some c) (s:Nat×Option Nat) (h:InvT b st k s):StepOk b k s (stepL st k c):=by
 have hk:k<b.length:=(List.getElem?_eq_some_iff.1 hc).1
 cases st with
 | out=>exact out_ok b k c hc s h
 | dead=>exact h.elim
 | num a f p =>
   obtain ⟨h1,h2,h3,h4⟩:=h
   show StepOk b k s (if nxI a c.toNat≠0 then ([],0,LSt.num (nxI a c.toNat) f (p++[c])) else
     if whI a && !stickI c.toNat then (⟨9,false,f,k,p⟩ :: (outL k c).1,(outL k c).2.1,(outL k c).2.2) else ([],5,.dead))
   split
   ·exact ⟨s,rfl,(by show (0:Int)≠1;decide),fun _=>⟨h1,h2,by omega,h4⟩,fun e=>absurd rfl e⟩
   split
   ·obtain ⟨s',g1,g2,g3,g4⟩:=out_ok b k c hc (k,none) ⟨rfl,Nat.le_refl _,blank_none b k⟩
    exact ⟨s',⟨⟨.inr h1,h2,h3,by show k≤b.length;omega,h4⟩,g1⟩,g2,g3,g4⟩
   ·exact ⟨s,rfl,by decide,fun e=>(by cases e),fun _=>by omega⟩
 | word f p =>
   obtain ⟨h1,h2,h3,h4⟩:=h
   show StepOk b k s (if refL (p++[c])=2 then ([],6,LSt.dead) else if refL (p++[c])=1 then ([⟨10,false,f,k+1,p++[c]⟩],0,.out) else ([],0,.word f (p++[c])))
   split
   ·exact ⟨s,rfl,by decide,fun e=>(by cases e),fun _=>by omega⟩
   split
   ·exact ⟨(k+1,none),⟨⟨.inr h1,h2,by show f<k+1;omega,hk,h4⟩,rfl⟩,(by show (0:Int)≠1;decide),fun _=>⟨rfl,Nat.le_refl _,blank_none b _⟩,fun e=>absurd rfl e⟩
   ·exact ⟨s,rfl,(by show (0:Int)≠1;decide),fun _=>⟨h1,h2,by omega,h4⟩,fun e=>absurd rfl e⟩
 | str q f acc =>
   obtain ⟨h1,h2,h3,h4⟩:=h
   show StepOk b k s (strL q f acc k c (stepQ q c))
   cases hq:stepQ q c with
   | none =>
     have:=faultQ_ne q c
     exact ⟨s,rfl,this.1,fun e=>absurd e this.2,fun _=>by omega⟩
   | some x =>
     obtain ⟨q',e⟩:=x
     by_cases hd:q'=.done
     ·subst hd
      exact ⟨(k+1,none),⟨⟨.inr h1,h2,by show f<k+1;omega,hk,h4⟩,rfl⟩,by show (0:Int)≠1;decide,fun _=>⟨rfl,Nat.le_refl _,blank_none b _⟩,fun e=>absurd rfl e⟩
     ·have hs:strL q f acc k c (some (q',e))=([],0,.str q' f (acc++e)):=by
        cases q'<;>first|rfl|exact absurd rfl hd
      rw[hs]
      exact ⟨s,rfl,by show (0:Int)≠1;decide,fun _=>⟨h1,h2,by omega,h4⟩,fun e=>absurd rfl e⟩
theorem close_ok (b:List UInt8) (st:LSt) (s:Nat×Option Nat) (h:InvT b st b.length s) :
   ∃ s',Spans b (closeL st b.length).1 s s'∧s'.1≤b.length∧((closeL st b.length).2=1→s'.2=none):=by
 cases st with
 | dead=>exact h.elim
 | out=>exact ⟨s,rfl,h.2.1,fun _=>h.1⟩
 | num a f p =>
   obtain ⟨h1,h2,h3,h4⟩:=h
   show ∃ s',Spans b (if whI a then ([⟨9,false,f,b.length,p⟩],(1:Int)) else ([],10)).1 s s'∧s'.1≤b.length∧((if whI a then ([(⟨9,false,f,b.length,p⟩:Tok)],(1:Int)) else ([],10)).2=1→s'.2=none)
   split
   ·exact ⟨(b.length,none),⟨⟨.inr h1,h2,h3,Nat.le_refl _,h4⟩,rfl⟩,Nat.le_refl _,fun _=>rfl⟩
   ·exact ⟨s,rfl,by omega,fun e=>(by cases e)⟩
 | word f p=>exact ⟨s,rfl,by have:=h.2.1;have:=h.2.2.1;omega,fun e=>(by cases e)⟩
 | str q f acc=>exact ⟨s,rfl,by have:=h.2.1;have:=h.2.2.1;omega,fun e=>(by cases e)⟩
end
end Go.Proofs.YtbpilcklglhloaaGreatDoor
