/- Lemmas. -/
import Derived.Test.YtnokhgfifbkflaaGreatJ08
set_option maxRecDepth 100000
set_option maxHeartbeats 8000000
set_option linter.unusedVariables false
namespace Go.Proofs.YtnokhgfifbkflaaGreat
section
open Go.RowKit
def lT:List UInt8:=[116,114,117,101]
def lF:List UInt8:=[102,97,108,115,101]
def lN:List UInt8:=[110,117,108,108]
def hit (lw l:List UInt8):Int:=if l=lw then 1 else if l.length<lw.length∧lw.take l.length=l then 0 else 2
def refL (l:List UInt8):Int:=if hit lT l=2 then (if hit lF l=2 then hit lN l else hit lF l) else hit lT l
theorem ba_ext {a b:ByteArray} (h:a.data.toList=b.data.toList):a=b:=by
 cases a with|mk x=>cases b with|mk y=>exact congrArg ByteArray.mk (Array.toList_inj.1 h)
theorem head_list (s:ByteArray) (k:Nat):(s.extract 0 k).data.toList=s.data.toList.take k:=by
 rw[ByteArray.data_extract,Array.toList_extract,List.extract_eq_take_drop]
 simp
theorem cat_list (s t:ByteArray):(s++t).data.toList=s.data.toList++t.data.toList:=by simp
theorem hit_one {lw l:List UInt8} (h:hit lw l=1):l=lw:=by
 unfold hit at h
 split at h
 ·assumption
 ·split at h<;>cases h
theorem ref_one {l:List UInt8} (h:refL l=1):l=lT∨l=lF∨l=lN:=by
 unfold refL at h
 split at h
 ·split at h
  ·exact .inr (.inr (hit_one h))
  ·exact .inr (.inl (hit_one h))
 ·exact .inl (hit_one h)
end
section
structure Stp where
 named:Bool
 name:List UInt8
 index:Nat
inductive May where
 | value|item|member|name|colon|next|nothing|broken
structure Opn where
 obj:Bool
 fr:Nat
 step:Stp
 many:Nat
 name:List UInt8
structure Nst where
 most:Nat
 op:List Opn
 may:May
 begun:Int
 came:Bool
def newN (d:Int):Nst:=⟨if d<1 then 1 else d.toNat,[],.value,0,false⟩
end
section
inductive Tree where
 | mk (kd:Int) (fr to:Nat) (tx:List UInt8) (items:List Tree) (names:List (List UInt8))
def Tree.kd:Tree→Int
 | .mk kd _ _ _ _ _=>kd
def Tree.fr:Tree→Nat
 | .mk _ fr _ _ _ _=>fr
def Tree.to:Tree→Nat
 | .mk _ _ to _ _ _=>to
def Tree.tx:Tree→List UInt8
 | .mk _ _ _ tx _ _=>tx
def Tree.items:Tree→List Tree
 | .mk _ _ _ _ items _=>items
def Tree.names:Tree→List (List UInt8)
 | .mk _ _ _ _ _ names=>names
end
section
open Go.RowKit
structure V6 where
 kd:Int
 fr:Nat
 to:Nat
 tx:List UInt8
 A:Option Addr
 n:Nat
 c:Nat
 B:Option Addr
 m:Nat
 d:Nat
def v6Cells (x:V6):List Value:=[.int .i64 x.kd,.int .i64 x.fr,.int .i64 x.to,.string ⟨x.tx.toArray⟩,.slice x.A x.n x.c,.slice x.B x.m x.d]
def valK:RowK V6 where
 T:=29
 S:=26
 n:=6
 bytes:=88
 zero:=.agg #[.int .i64 0,.int .i64 0,.int .i64 0,.string ⟨#[]⟩,.slice none 0 0,.slice none 0 0]
 enc:=v6Cells
 pos:=by decide
 len:=fun _=>rfl
 one:=fun x u h=>by
   simp[v6Cells] at h
   rcases h with rfl|rfl|rfl|rfl|rfl|rfl<;>rfl
 under:=Tryz.underlying26
 info:=by kernel_rfl
 zlen:=rfl
 small:=by decide
def namK:RowK (List UInt8) where
 T:=9
 S:=27
 n:=1
 bytes:=16
 zero:=.string ⟨#[]⟩
 enc:=fun s=>[.string ⟨s.toArray⟩]
 pos:=by decide
 len:=fun _=>rfl
 one:=fun s u h=>by simp at h;subst h;rfl
 under:=Tryz.underlying27
 info:=by kernel_rfl
 zlen:=rfl
 small:=by decide
theorem RdG.below {α:Type} {K:RowK α} {w w':World} {A:Option Addr} {m:Nat} {l:List α} (h:RdG K w A m l) (hb:Below w.heap.size w w'):RdG K w' A m l :=
 ⟨h.1,fun hm=>by
   obtain ⟨b,o,e,hlt,hc⟩:=h.2 hm
   exact ⟨b,o,e,by have:=hb.size;omega,fun j u hu=>(hb.cell (p:=⟨b,o+j,none⟩) hlt).trans (hc j u hu)⟩⟩
mutual
def VIs (w:World):Tree→V6→Prop
 | .mk kd fr to tx items names,x=>x.kd=kd∧x.fr=fr∧x.to=to∧x.tx=tx∧x.n≤x.c∧x.m≤x.d∧RdG namK w x.B x.m names ∧ ∃ xs,RdG valK w x.A x.n xs∧VLs w items xs
def VLs (w:World):List Tree→List V6→Prop
 | [],xs=>xs=[]
 | t :: ts,xs => ∃ x r,xs=x :: r∧VIs w t x∧VLs w ts r
end
section
variable {w w':World}
mutual
theorem VIs.stay (hb:Below w.heap.size w w'):∀ (t:Tree) (x:V6),VIs w t x→VIs w' t x
 | .mk kd fr to tx items names,x,h=>by
   unfold VIs at h ⊢
   obtain ⟨h1,h2,h3,h4,h5,h6,h7,xs,h8,h9⟩:=h
   exact ⟨h1,h2,h3,h4,h5,h6,h7.below hb,xs,h8.below hb,VLs.stay hb items xs h9⟩
theorem VLs.stay (hb:Below w.heap.size w w'):∀ (ts:List Tree) (xs:List V6),VLs w ts xs→VLs w' ts xs
 | [],xs,h=>by unfold VLs at h ⊢;exact h
 | t :: ts,xs,h=>by
   unfold VLs at h ⊢
   obtain ⟨x,r,rfl,h1,h2⟩:=h
   exact ⟨x,r,rfl,VIs.stay hb t x h1,VLs.stay hb ts r h2⟩
end
theorem VLs.len:∀ {ts:List Tree} {xs:List V6},VLs w ts xs→xs.length=ts.length
 | [],xs,h=>by unfold VLs at h;subst h;rfl
 | t :: ts,xs,h=>by
   unfold VLs at h
   obtain ⟨x,r,rfl,_,h2⟩:=h
   simp[VLs.len h2]
theorem VLs.at:∀ {ts:List Tree} {xs:List V6} (i:Nat) (t:Tree),VLs w ts xs→ts[i]?=some t → ∃ x,xs[i]?=some x∧VIs w t x
 | [],xs,i,t,h,e=>by cases e
 | u :: ts,xs,0,t,h,e=>by
   unfold VLs at h
   obtain ⟨x,r,rfl,h1,_⟩:=h
   obtain rfl:u=t:=by simpa using e
   exact ⟨x,rfl,h1⟩
 | u :: ts,xs,i+1,t,h,e=>by
   unfold VLs at h
   obtain ⟨x,r,rfl,_,h2⟩:=h
   obtain ⟨y,hy,hv⟩:=VLs.at i t h2 (by simpa using e)
   exact ⟨y,by simpa using hy,hv⟩
theorem VIs.many {kd:Int} {fr to:Nat} {tx:List UInt8} {items:List Tree} {names:List (List UInt8)} {x:V6} (h:VIs w (.mk kd fr to tx items names) x):x.n=items.length∧x.m=names.length:=by
 unfold VIs at h
 obtain ⟨_,_,_,_,_,_,h7,xs,h8,h9⟩:=h
 exact ⟨by rw[← h8.1,h9.len],h7.1.symm⟩
end
end
section
def letR (c:UInt8):UInt8:=if c=34 then 34 else if c=92 then 92 else if c=47 then 47 else if c=98 then 8 else if c=102 then 12 else if c=110 then 10 else if c=114 then 13 else if c=116 then 9 else 0
def hexGo:Nat→List UInt8→Int→Nat×Int
 | 0,_,v=>(0,v)
 | _+1,[],v=>(0,v)
 | f+1,c :: t,v=>if isHexI c.toNat then ((hexGo f t (v*16+hexI c.toNat)).1+1,(hexGo f t (v*16+hexI c.toNat)).2) else (0,v)
def hexR (l:List UInt8):Nat×Int:=hexGo 4 l 0
def unitD (sec:Bool) (n:Nat) (v d1 d2:Int) (len:Nat):Nat×Int×Int:=match sec with
 | true=>if 1≤n∧d1≠13 then (2,0,4) else if 2≤n∧d2<12 then (3,0,4) else if n<4∧n<len∧n<2 then (2+n,0,4) else if n<4∧n<len then (2+n,0,3) else (2+n,v,0)
 | false=>if 2≤n∧d1=13∧12≤d2 then (3,0,4) else if n<4∧n<len then (2+n,0,3) else (2+n,v,0)
def unitR (l:List UInt8) (sec:Bool):Nat×Int×Int:=match l with
 | []=>(0,0,0)
 | c0 :: l1=>if c0≠92 then (0,0,if sec then 4 else 3) else match l1 with
   | []=>(1,0,0)
   | c1 :: r=>if c1≠117 then (1,0,if sec then 4 else 3) else
     unitD sec (hexR r).1 (hexR r).2 (if 1≤(hexR r).1 then hexI (r.getD 0 0).toNat else -1) (if 2≤(hexR r).1 then hexI (r.getD 1 0).toNat else -1) r.length
def sigR:Int→Int→List UInt8→Nat→Nat×Int×Bool
 | _,_,[],k=>(k,0,false)
 | sg,lf,c :: t,k=>if okU sg lf c.toNat then (if lfU lf c.toNat=0 then (k+1,0,true) else sigR (sgU sg lf c.toNat) (lfU lf c.toNat) t (k+1)) else (k,2,false)
def pieceX (l:List UInt8):List UInt8×Nat×Int×Bool :=
 if (l.getD 0 0).toNat<32 then ([],0,7,false)
 else if l.getD 0 0≠92 then ((if (sigR 0 0 l 0).2.2 then l.take (sigR 0 0 l 0).1 else []),sigR 0 0 l 0)
 else if l.length=1 then ([],1,0,false)
 else if l.getD 1 0≠117 then (if letR (l.getD 1 0)=0 then ([],1,3,false) else ([letR (l.getD 1 0)],2,0,true))
 else if (unitR l false).2.2≠0∨(unitR l false).1<6 then ([],(unitR l false).1,(unitR l false).2.2,false)
 else if (unitR l false).2.1<55296∨56319<(unitR l false).2.1 then (ofB (fixI (unitR l false).2.1),6,0,true)
 else if (unitR (l.drop 6) true).2.2≠0∨(unitR (l.drop 6) true).1<6 then ([],6+(unitR (l.drop 6) true).1,(unitR (l.drop 6) true).2.2,false)
 else (ofB (fixI (65536+((unitR l false).2.1-55296)*1024+(unitR (l.drop 6) true).2.1-56320)),12,0,true)
def scanR:Nat→List UInt8→List UInt8×Nat×Int
 | 0,_=>([],0,0)
 | f+1,l=>if l=[] then ([],0,0) else if l.getD 0 0=34 then ([],1,1)
   else if (pieceX l).2.2.1≠0∨(pieceX l).2.2.2=false then ([],(pieceX l).2.1,(pieceX l).2.2.1)
   else ((pieceX l).1++(scanR f (l.drop (pieceX l).2.1)).1,(pieceX l).2.1+(scanR f (l.drop (pieceX l).2.1)).2.1,(scanR f (l.drop (pieceX l).2.1)).2.2)
def scanL (l:List UInt8):List UInt8×Nat×Int:=scanR l.length l
def blankN:List UInt8→Nat
 | []=>0
 | c :: t=>if isBlankI c.toNat then blankN t+1 else 0
def blankR (l:List UInt8)(at':Nat):Nat:=at'+blankN (l.drop at')
structure PartR where
 val:Tree
 beg:Bool
 pt:Nat
 fault:Int
def zeroT:Tree:=.mk 0 0 0 [] [] []
def brkR10 (kd:Int)(fr:Nat)(items:List Tree)(names:List (List UInt8))(kind:Int)(pt:Nat):PartR:=⟨.mk kd fr 0 [] items names,true,pt,kind⟩
def quotedR (l:List UInt8) (k:Nat):PartR :=
 if (scanL (l.drop (k+1))).2.2=0 then brkR10 3 k [] [] 10 l.length
 else if (scanL (l.drop (k+1))).2.2≠1 then brkR10 3 k [] [] (scanL (l.drop (k+1))).2.2 (k+1+(scanL (l.drop (k+1))).2.1)
 else ⟨.mk 3 k (k+1+(scanL (l.drop (k+1))).2.1) (scanL (l.drop (k+1))).1 [] [],true,k+1+(scanL (l.drop (k+1))).2.1,0⟩
def numW:Int→List UInt8→Nat→Nat×Int×Int
 | a,[],k=>(k,0,a)
 | a,c :: t,k=>if nxI a c.toNat≠0 then numW (nxI a c.toNat) t (k+1) else (k,anI a c.toNat,a)
def numberR (l:List UInt8) (cl:Bool) (k:Nat):PartR :=
 if (numW 0 (l.drop k) 0).2.1=2 then brkR10 2 k [] [] 5 (k+(numW 0 (l.drop k) 0).1)
 else if (cl=false∧(numW 0 (l.drop k) 0).2.1=0)∨whI (numW 0 (l.drop k) 0).2.2=false then brkR10 2 k [] [] 10 l.length
 else ⟨.mk 2 k (k+(numW 0 (l.drop k) 0).1) ((l.drop k).take (numW 0 (l.drop k) 0).1) [] [],true,k+(numW 0 (l.drop k) 0).1,0⟩
def wordW:List UInt8→List UInt8→Nat×Int
 | p,[]=>(p.length,0)
 | p,c :: t=>if refL (p++[c])=0 then wordW (p++[c]) t else (p.length,refL (p++[c]))
def wordR (l:List UInt8) (k:Nat):PartR :=
 if (wordW [] (l.drop k)).2=2 then brkR10 0 k [] [] 6 (k+(wordW [] (l.drop k)).1)
 else if (wordW [] (l.drop k)).2=0 then brkR10 0 k [] [] 10 l.length
 else ⟨.mk (if (l.drop k).take ((wordW [] (l.drop k)).1+1)=lN then 0 else 1) k (k+(wordW [] (l.drop k)).1+1) ((l.drop k).take ((wordW [] (l.drop k)).1+1)) [] [],true,k+(wordW [] (l.drop k)).1+1,0⟩
def arrGo (l:List UInt8) (sm:Nat→PartR) (fr:Nat):Nat→Nat→List Tree→PartR
 | 0,_,items=>brkR10 4 fr items [] 10 l.length
 | f+1,k,items =>
   if l.length≤k then brkR10 4 fr items [] 10 l.length
   else if (sm k).fault≠0 then brkR10 4 fr (if (sm k).beg then items++[(sm k).val] else items) [] (sm k).fault (sm k).pt
   else if l.length≤blankR l (sm k).pt then brkR10 4 fr (if (sm k).beg then items++[(sm k).val] else items) [] 10 l.length
   else if l.getD (blankR l (sm k).pt) 0=93 then ⟨.mk 4 fr (blankR l (sm k).pt+1) [] (if (sm k).beg then items++[(sm k).val] else items) [],true,blankR l (sm k).pt+1,0⟩
   else if l.getD (blankR l (sm k).pt) 0≠44 then brkR10 4 fr (if (sm k).beg then items++[(sm k).val] else items) [] 8 (blankR l (sm k).pt)
   else arrGo l sm fr f (blankR l (blankR l (sm k).pt+1)) (if (sm k).beg then items++[(sm k).val] else items)
def arrR (l:List UInt8) (sm:Nat→PartR) (k:Nat):PartR :=
 if blankR l (k+1)<l.length∧l.getD (blankR l (k+1)) 0=93 then ⟨.mk 4 k (blankR l (k+1)+1) [] [] [],true,blankR l (k+1)+1,0⟩
 else arrGo l sm k (l.length+1-blankR l (k+1)) (blankR l (k+1)) []
def nameR10 (l:List UInt8) (k:Nat):Option (List UInt8×Nat)×Int×Nat :=
 if l.length≤k then (none,10,l.length)
 else if l.getD k 0≠34 then (none,8,k)
 else if (quotedR l k).fault≠0 then (none,(quotedR l k).fault,(quotedR l k).pt)
 else if l.length≤blankR l (quotedR l k).pt then (none,10,l.length)
 else if l.getD (blankR l (quotedR l k).pt) 0≠58 then (none,8,blankR l (quotedR l k).pt)
 else if l.length≤blankR l (blankR l (quotedR l k).pt+1) then (none,10,l.length)
 else (some ((quotedR l k).val.tx,blankR l (blankR l (quotedR l k).pt+1)),0,0)
def objGo (l:List UInt8) (sm:Nat→PartR) (fr:Nat):Nat→Nat→List Tree→List (List UInt8)→PartR
 | 0,_,items,names=>brkR10 5 fr items names 10 l.length
 | f + 1,k,items,names=>match nameR10 l k with
   | (none,fault,pt)=>brkR10 5 fr items names fault pt
   | (some (nm,v),_,_) =>
     if (sm v).fault≠0 then brkR10 5 fr (if (sm v).beg then items++[(sm v).val] else items) (if (sm v).beg then names++[nm] else names) (sm v).fault (sm v).pt
     else if l.length≤blankR l (sm v).pt then brkR10 5 fr (if (sm v).beg then items++[(sm v).val] else items) (if (sm v).beg then names++[nm] else names) 10 l.length
     else if l.getD (blankR l (sm v).pt) 0=125 then ⟨.mk 5 fr (blankR l (sm v).pt+1) [] (if (sm v).beg then items++[(sm v).val] else items) (if (sm v).beg then names++[nm] else names),true,blankR l (sm v).pt+1,0⟩
     else if l.getD (blankR l (sm v).pt) 0≠44 then brkR10 5 fr (if (sm v).beg then items++[(sm v).val] else items) (if (sm v).beg then names++[nm] else names) 8 (blankR l (sm v).pt)
     else objGo l sm fr f (blankR l (blankR l (sm v).pt+1)) (if (sm v).beg then items++[(sm v).val] else items) (if (sm v).beg then names++[nm] else names)
def objR (l:List UInt8) (sm:Nat→PartR) (k:Nat):PartR :=
 if blankR l (k+1)<l.length∧l.getD (blankR l (k+1)) 0=125 then ⟨.mk 5 k (blankR l (k+1)+1) [] [] [],true,blankR l (k+1)+1,0⟩
 else objGo l sm k (l.length+1-blankR l (k+1)) (blankR l (k+1)) [] []
def someR (l:List UInt8) (cl:Bool):Nat→Nat→PartR
 | 0, k=>if kindI (l.getD k 0).toNat=8 then quotedR l k else if kindI (l.getD k 0).toNat=9 then numberR l cl k else if kindI (l.getD k 0).toNat=10 then wordR l k
     else ⟨zeroT,false,k,if kindI (l.getD k 0).toNat=2∨kindI (l.getD k 0).toNat=4 then 12 else 8⟩
 | n + 1,k=>if kindI (l.getD k 0).toNat=8 then quotedR l k else if kindI (l.getD k 0).toNat=9 then numberR l cl k else if kindI (l.getD k 0).toNat=10 then wordR l k
     else if kindI (l.getD k 0).toNat=2 then arrR l (someR l cl n) k else if kindI (l.getD k 0).toNat=4 then objR l (someR l cl n) k else ⟨zeroT,false,k,8⟩
def SomeR (l:List UInt8) (d:Int) (cl:Bool):Tree×Bool×Int×Nat :=
 if l.length≤blankR l 0 then (zeroT,false,if cl then 11 else 0,l.length)
 else if (someR l cl (newN d).most (blankR l 0)).fault=10∧cl=false then ((someR l cl (newN d).most (blankR l 0)).val,(someR l cl (newN d).most (blankR l 0)).beg,0,l.length)
 else if (someR l cl (newN d).most (blankR l 0)).fault≠0 then ((someR l cl (newN d).most (blankR l 0)).val,(someR l cl (newN d).most (blankR l 0)).beg,(someR l cl (newN d).most (blankR l 0)).fault,(someR l cl (newN d).most (blankR l 0)).pt)
 else if blankR l (someR l cl (newN d).most (blankR l 0)).pt<l.length then ((someR l cl (newN d).most (blankR l 0)).val,true,9,blankR l (someR l cl (newN d).most (blankR l 0)).pt)
 else ((someR l cl (newN d).most (blankR l 0)).val,true,if cl then 1 else 0,l.length)
def ParseR (l:List UInt8)(d:Int):Tree×Int×Nat:=if (SomeR l d true).2.2.1=1 then ((SomeR l d true).1,(SomeR l d true).2.2) else (zeroT,(SomeR l d true).2.2)
end
end Go.Proofs.YtnokhgfifbkflaaGreat
