/- Lemmas. -/
import Derived.Test.YtmgdjlkndbejkaaGreatDoorJ13
set_option maxRecDepth 100000
set_option maxHeartbeats 8000000
set_option linter.unusedVariables false
set_option linter.unusedSimpArgs false
namespace Go.Proofs.YtmgdjlkndbejkaaGreatDoor
section
open Go.RowKit
def numT (v:Int):List UInt8:=if v<0 then 45 :: digN (-v).toNat else digN v.toNat
def fitsB (v:Int):Bool:=decide (-9007199254740991≤v∧v≤9007199254740991)
def goodB (y:Sel):Bool :=
 if y.kind<0∨3<y.kind then false
 else if (y.kind≠0∧y.name.data.toList≠[])∨(y.kind≠2∧y.index≠0) then false
 else if y.kind≠3∧(y.start≠0∨y.en≠0∨y.stride≠0∨y.hs=true∨y.he=true) then false
 else if (y.hs=false∧y.start≠0)∨(y.he=false∧y.en≠0) then false
 else fitsB y.index&&fitsB y.start&&fitsB y.en&&fitsB y.stride&&decide (badU y.name.data.toList = -1)
def rightQ (xs:List Sgm):Bool:=xs.all fun x => !x.sels.isEmpty&&x.sels.all goodB
def selT (y:Sel):List UInt8 :=
 if goodB y=false then [] else if y.kind=0 then nameT y.name.data.toList else if y.kind=1 then [42] else if y.kind=2 then numT y.index
 else (if y.hs then numT y.start else [])++58 :: ((if y.he then numT y.en else [])++(if y.stride=1 then [] else 58 :: numT y.stride))
def selsT:List Sel→List UInt8
 | []=>[]
 | [y]=>selT y
 | y :: z :: t=>selT y++44 :: selsT (z :: t)
def sgmT (x:Sgm):List UInt8:=(if x.deep then [46,46] else [])++91 :: (selsT x.sels++[93])
def putQ (xs:List Sgm):List UInt8:=if rightQ xs then 36 :: xs.flatMap sgmT else []
theorem fitsB_max {v:Int}(h:fitsB v=true):MaxQ v:=of_decide_eq_true (p:=-9007199254740991≤v∧v≤9007199254740991) h
theorem max_fitsB {v:Int}(h:MaxQ v):fitsB v=true:=by unfold fitsB;rw[decide_eq_true_eq];exact h
theorem good_cases {y:Sel} (h:goodB y=true):y=sqA∨(∃ m,y=sqN m∧badU m = -1)∨(∃ v,y=sqI v∧MaxQ v) ∨ ∃ a b c,y=sqS a b c∧MaxQ (a.getD 0)∧MaxQ (b.getD 0)∧MaxQ c:=by
 obtain ⟨kind,name,index,start,en,hs,he,stride⟩:=y
 unfold goodB at h
 dsimp only at h
 split at h
 ·cases h
 rename_i h1
 split at h
 ·cases h
 rename_i h2
 split at h
 ·cases h
 rename_i h3
 split at h
 ·cases h
 rename_i h4
 simp only [Bool.and_eq_true,decide_eq_true_eq] at h
 obtain ⟨⟨⟨⟨f1,f2⟩,f3⟩,f4⟩,f5⟩:=h
 have nm:(⟨name.data.toList.toArray⟩:ByteArray)=name:=by simp
 by_cases k0:kind=0
 ·subst k0
  have hi:index=0:=by
    rcases Int.eq_nat_or_neg index with _|_<;>(by_cases hi:index=0;exact hi;exact absurd (.inr ⟨by decide,hi⟩) h2)
  have h3':¬ (start≠0∨en≠0∨stride≠0∨hs=true∨he=true):=fun e=>h3 ⟨by decide,e⟩
  have g1:start=0:=by by_cases e:start=0;exact e;exact absurd (.inl e) h3'
  have g2:en=0:=by by_cases e:en=0;exact e;exact absurd (.inr (.inl e)) h3'
  have g3:stride=0:=by by_cases e:stride=0;exact e;exact absurd (.inr (.inr (.inl e))) h3'
  have g4:hs=false:=by cases hs;rfl;exact absurd (.inr (.inr (.inr (.inl rfl)))) h3'
  have g5:he=false:=by cases he;rfl;exact absurd (.inr (.inr (.inr (.inr rfl)))) h3'
  subst hi g1 g2 g3 g4 g5
  exact .inr (.inl ⟨name.data.toList,by unfold sqN;rw[nm],f5⟩)
 have hn:name=⟨#[]⟩:=by
   have:name.data.toList=[]:=by by_cases e:name.data.toList=[];exact e;exact absurd (.inl ⟨k0,e⟩) h2
   rw[← nm,this]
 subst hn
 by_cases k2:kind=2
 ·subst k2
  have h3':¬ (start≠0∨en≠0∨stride≠0∨hs=true∨he=true):=fun e=>h3 ⟨by decide,e⟩
  have g1:start=0:=by by_cases e:start=0;exact e;exact absurd (.inl e) h3'
  have g2:en=0:=by by_cases e:en=0;exact e;exact absurd (.inr (.inl e)) h3'
  have g3:stride=0:=by by_cases e:stride=0;exact e;exact absurd (.inr (.inr (.inl e))) h3'
  have g4:hs=false:=by cases hs;rfl;exact absurd (.inr (.inr (.inr (.inl rfl)))) h3'
  have g5:he=false:=by cases he;rfl;exact absurd (.inr (.inr (.inr (.inr rfl)))) h3'
  subst g1 g2 g3 g4 g5
  exact .inr (.inr (.inl ⟨index,rfl,fitsB_max f1⟩))
 have hi:index=0:=by by_cases e:index=0;exact e;exact absurd (.inr ⟨k2,e⟩) h2
 subst hi
 by_cases k3:kind=3
 ·subst k3
  refine .inr (.inr (.inr ⟨if hs then some start else none,if he then some en else none,stride,?_,?_,?_,fitsB_max f4⟩))
  ·cases hs<;>cases he
   ·have g1:start=0:=by by_cases e:start=0;exact e;exact absurd (.inl ⟨rfl,e⟩) h4
    have g2:en=0:=by by_cases e:en=0;exact e;exact absurd (.inr ⟨rfl,e⟩) h4
    subst g1 g2;rfl
   ·have g1:start=0:=by by_cases e:start=0;exact e;exact absurd (.inl ⟨rfl,e⟩) h4
    subst g1;rfl
   ·have g2:en=0:=by by_cases e:en=0;exact e;exact absurd (.inr ⟨rfl,e⟩) h4
    subst g2;rfl
   ·rfl
  ·cases hs
   ·show MaxQ 0;unfold MaxQ;omega
   ·exact fitsB_max f2
  ·cases he
   ·show MaxQ 0;unfold MaxQ;omega
   ·exact fitsB_max f3
 have k1:kind=1:=by omega
 subst k1
 have h3':¬ (start≠0∨en≠0∨stride≠0∨hs=true∨he=true):=fun e=>h3 ⟨by decide,e⟩
 have g1:start=0:=by by_cases e:start=0;exact e;exact absurd (.inl e) h3'
 have g2:en=0:=by by_cases e:en=0;exact e;exact absurd (.inr (.inl e)) h3'
 have g3:stride=0:=by by_cases e:stride=0;exact e;exact absurd (.inr (.inr (.inl e))) h3'
 have g4:hs=false:=by cases hs;rfl;exact absurd (.inr (.inr (.inr (.inl rfl)))) h3'
 have g5:he=false:=by cases he;rfl;exact absurd (.inr (.inr (.inr (.inr rfl)))) h3'
 subst g1 g2 g3 g4 g5
 exact .inl rfl
theorem fits_zero:fitsB 0=true:=by decide
theorem good_any:goodB sqA=true:=by decide +kernel
theorem good_name {m:List UInt8} (h:badU m = -1):goodB (sqN m)=true:=by
 unfold goodB sqN
 dsimp only
 rw[if_neg (by omega),if_neg (by simp),if_neg (by simp),if_neg (by simp)]
 simp[fits_zero,h]
theorem good_index {v:Int} (h:MaxQ v):goodB (sqI v)=true:=by
 unfold goodB sqI
 dsimp only
 rw[if_neg (by omega),if_neg (by simp),if_neg (by simp),if_neg (by simp)]
 simp[fits_zero,max_fitsB h,show badU [] = -1 from rfl]
theorem good_slice {a b:Option Int} {c:Int} (ha:MaxQ (a.getD 0)) (hb:MaxQ (b.getD 0)) (hc:MaxQ c):goodB (sqS a b c)=true:=by
 unfold goodB sqS
 dsimp only
 rw[if_neg (by omega),if_neg (by simp),if_neg (by simp),if_neg (by cases a<;>cases b<;>simp)]
 simp[fits_zero,max_fitsB ha,max_fitsB hb,max_fitsB hc,show badU [] = -1 from rfl]
theorem ok_good {n:Nat} {y:Sel} (h:SelOK n y):goodB y=true:=by
 cases h with
 | any=>exact good_any
 | name m h1 _=>exact good_name h1
 | index v h=>exact good_index h
 | slice a b c h1 h2 h3=>exact good_slice h1 h2 h3
theorem read_right (l:List UInt8):rightQ ((queQ l).getD [])=true:=by
 unfold rightQ
 rw[List.all_eq_true]
 intro x hx
 obtain ⟨h1,h2⟩:=queQ_ok l x hx
 rw[Bool.and_eq_true]
 refine ⟨?_,List.all_eq_true.2 fun y hy=>ok_good (h2 y hy)⟩
 cases hs:x.sels with
 | nil=>exact absurd hs h1
 | cons a t=>rfl
theorem digN_val (v:Nat):valD (digN v) 0=v:=by
 induction v using digN.induct with
 | case1 n h=>rw[digN_one n h];show 0*10+((UInt8.ofNat (48+n)).toNat-48)=n;rw[dig_toNat n h];omega
 | case2 n h ih=>rw[digN_more n h,val_snoc,ih,dig_toNat _ (by omega)];omega
theorem digN_16 {v:Nat}(h:v≤9007199254740991):(digN v).length≤16:=digN_len 15 v (by omega)
theorem intD_dig (m:Nat) {v:Nat} (hv:v≤9007199254740991) (rest:List UInt8) (hr:runD rest=0):intD m (digN v++rest) (runD (digN v++rest))=some (if m=1 then -(v:Int) else (v:Int),m+(digN v).length):=by
 have hrun:runD (digN v++rest)=(digN v).length:=by rw[runD_app _ _ (digN_all v),hr,Nat.add_zero]
 have h1:=digN_pos v
 have h16:=digN_16 hv
 rw[hrun]
 unfold intD
 rw[if_neg (by omega),List.take_left,digN_val,if_neg (by omega)]
theorem nrQ_num {v:Int} (hv:MaxQ v) (rest:List UInt8) (hr:runD rest=0):nrQ (numT v++rest)=some (v,(numT v).length):=by
 unfold MaxQ at hv
 unfold numT
 by_cases h0:v<0
 ·rw [if_pos h0]
  obtain ⟨k,hk⟩:∃ k:Nat,(-v).toNat=k:=⟨_,rfl⟩
  rw[hk]
  have hm:minB (45 :: digN k++rest)=1:=rfl
  have hd:(45 :: digN k++rest).drop 1=digN k++rest:=rfl
  have hh:(digN k++rest).head?≠some 48:=by
    intro e
    have hp:=digN_pos k
    rw[head_app (by intro e;rw[e] at hp;simp at hp)] at e
    have:=digN_head k e
    omega
  unfold nrQ
  rw[hm,hd,if_neg hh,intD_dig 1 (by omega) rest hr]
  show some (-(k:Int),1+(digN k).length)=some (v,(digN k).length+1)
  rw[Nat.add_comm,show -(k:Int)=v by omega]
 ·rw [if_neg h0]
  obtain ⟨k,hk⟩:∃ k:Nat,v.toNat=k:=⟨_,rfl⟩
  rw[hk]
  have hp:=digN_pos k
  have hne:digN k≠[]:=by intro e;rw[e] at hp;simp at hp
  have hall:=digN_all k
  have hm:minB (digN k++rest)=0:=by
    refine if_neg ?_
    rw[head_app hne]
    intro e
    cases hc:digN k with
    | nil=>exact hne hc
    | cons c t =>
      rw[hc] at e hall
      obtain rfl:=Option.some.inj e
      have:=hall 45 (by simp)
      exact absurd this (by decide)
  unfold nrQ
  rw[hm,List.drop_zero]
  by_cases h48:(digN k++rest).head?=some 48
  ·rw[if_pos h48]
   rw[head_app hne] at h48
   have:=digN_head k h48
   subst this
   show some (0,1)=some (v,(digN 0).length)
   rw[digN_one 0 (by omega),show v=0 by omega]
   rfl
  ·rw[if_neg h48,intD_dig 0 (by omega) rest hr]
   show some ((k:Int),0+(digN k).length)=some (v,(digN k).length)
   rw[Nat.zero_add,show (k:Int)=v by omega]
def NoNum (l:List UInt8):Prop:=∀ c,l.head?=some c→c≠45∧digB c=false
theorem NoNum.run {l:List UInt8} (h:NoNum l):runD l=0:=by
 cases l with
 | nil=>rfl
 | cons c t=>exact if_neg (by rw[(h c rfl).2];decide)
theorem NoNum.none {l:List UInt8} (h:NoNum l):nrQ l=none:=by
 have hm:minB l=0:=if_neg (fun e=>(h 45 e).1 rfl)
 unfold nrQ
 rw[hm,List.drop_zero,if_neg (fun e=>absurd (h 48 e).2 (by decide))]
 unfold intD
 rw[if_pos (.inl h.run)]
theorem noNum_cons {c:UInt8}(t:List UInt8)(h1:c≠45)(h2:digB c=false):NoNum (c :: t):=fun d hd=>by obtain rfl:=Option.some.inj hd;exact ⟨h1,h2⟩
theorem EndS.noNum {l:List UInt8} (h:EndS l):NoNum l:=fun c hc=>by
 rcases h with h|h<;>(rw[h] at hc;obtain rfl:=Option.some.inj hc;exact ⟨by decide,by decide⟩)
theorem EndS.skB {l:List UInt8} (h:EndS l):skB l=l:=by
 rcases h with h|h<;>exact skB_id (runB_head h (by decide))
theorem EndS.ne58 {l:List UInt8} (h:EndS l):l.head?≠some 58:=by
 rcases h with h|h<;>(rw[h];decide)
theorem num_head (v:Int) (rest:List UInt8):∃ c t,numT v++rest=c :: t∧(c=45∨digB c=true):=by
 unfold numT
 by_cases h0:v<0
 ·rw[if_pos h0];exact ⟨45,_,rfl,.inl rfl⟩
 ·rw[if_neg h0]
  have hp:=digN_pos v.toNat
  have hall:=digN_all v.toNat
  cases hc:digN v.toNat with
  | nil=>rw[hc] at hp;simp at hp
  | cons c t=>rw[hc] at hall;exact ⟨c,_,rfl,.inr (hall c (by simp))⟩
theorem numH_num (v:Int) (rest:List UInt8):NumH (numT v++rest):=by
 obtain ⟨c,t,h1,h2⟩:=num_head v rest
 exact ⟨c,by rw[h1];rfl,h2⟩
theorem skB_num (v:Int)(rest:List UInt8):skB (numT v++rest)=numT v++rest:=skB_id (numH_num v rest).run
theorem skB_colon (t:List UInt8):skB (58 :: t)=58 :: t:=skB_id (runB_head (c:=58) rfl (by decide))
theorem intA_num {v:Int} (hv:MaxQ v) (rest:List UInt8) (hr:runD rest=0):intA (numT v++rest)=(some v,rest):=by
 rw[intA_yes (nrQ_num hv rest hr),List.drop_left]
theorem noNum_colon (t:List UInt8):NoNum (58 :: t):=noNum_cons t (by decide) (by decide)
def optT:Option Int→List UInt8
 | some v=>numT v
 | none=>[]
def tailC (c:Int)(rest:List UInt8):List UInt8:=(if c=1 then [] else 58 :: numT c)++rest
theorem tailC_no {c:Int} {rest:List UInt8} (he:EndS rest):NoNum (tailC c rest):=by
 unfold tailC
 split
 ·exact he.noNum
 ·exact noNum_colon _
theorem tailC_skB {c:Int} {rest:List UInt8} (he:EndS rest):skB (tailC c rest)=tailC c rest:=by
 unfold tailC
 split
 ·exact he.skB
 ·exact skB_colon _
theorem slcE_back (a e:Option Int) {c:Int} (hc:MaxQ c) {rest:List UInt8} (he:EndS rest):slcE a e (tailC c rest)=(sqS a e c,rest):=by
 unfold slcE tailC
 by_cases h1:c=1
 ·rw[if_pos h1]
  show (if rest.head?=some 58 then _ else (sqS a e 1,rest))=_
  rw[if_neg he.ne58,h1]
 ·rw [if_neg h1]
  have:nrQ (skB (numT c++rest))=some (c,(numT c).length):=by rw[skB_num,nrQ_num hc rest he.noNum.run]
  show (if (58 :: (numT c++rest)).head?=some 58 then (match nrQ (skB (numT c++rest)) with
    | some (v,n)=>(sqS a e v,(skB (numT c++rest)).drop n)
    | none=>(sqS a e 1,skB (numT c++rest))) else _)=_
  rw[if_pos (show (58 :: (numT c++rest)).head?=some 58 from rfl),this,skB_num]
  show (sqS a e c,(numT c++rest).drop (numT c).length)=_
  rw[List.drop_left]
theorem slcR_back (a b:Option Int) {c:Int} (hb:MaxQ (b.getD 0)) (hc:MaxQ c) {rest:List UInt8} (he:EndS rest):slcR a (optT b++tailC c rest)=(sqS a b c,rest):=by
 have ht:=tailC_no (c:=c) he
 have hs:=tailC_skB (c:=c) he
 unfold slcR
 cases b with
 | none =>
   show slcE a (intA (skB (tailC c rest))).1 (skB (intA (skB (tailC c rest))).2)=_
   rw[hs,intA_no ht.none,hs]
   exact slcE_back a none hc he
 | some v =>
   show slcE a (intA (skB (numT v++tailC c rest))).1 (skB (intA (skB (numT v++tailC c rest))).2)=_
   rw[skB_num,intA_num (v:=v) hb _ ht.run]
   show slcE a (some v) (skB (tailC c rest))=_
   rw[hs]
   exact slcE_back a (some v) hc he
theorem sng_readM (t:List UInt8):(readM 39 .plain t [] 1).map (fun p=>(p.1,(39 :: t).drop p.2))=sngR t:=by
 rw[tr_read (t.length+1) t .plain [] 1 (Nat.lt_succ_self _) (fun _ _ _ e=>by cases e) (by intro e;cases e) (fun e=>by cases e)]
 unfold sngR
 cases hq:trL (t.length+1) t with
 | none=>rfl
 | some p =>
   have he:=(trL_end _ t p hq).2.1
   show (((readQ .plain (p.1++[34]) [] 0).map (·.1)).map fun u=>(u,1+(t.length-p.2.length))).map _=(readQ .plain (p.1++[34]) [] 0).map _
   cases readQ .plain (p.1++[34]) [] 0 with
   | none=>rfl
   | some u =>
     show some (u.1,(39 :: t).drop (1+(t.length-p.2.length)))=some (u.1,p.2)
     rw[Nat.add_comm,List.drop_succ_cons,← he]
theorem readM_sign (m:UInt8) (l:List UInt8):∀ (sg lf:Int) (p:List UInt8) (k j:Nat),sgnGo sg lf l k=j→j≠0 → ∀ rest acc n,
   readM m (.sign sg lf p) (l.take (j-k)++rest) acc n=readM m .plain rest (acc++p++l.take (j-k)) (n+(j-k)):=by
 induction l with
 | nil=>intro sg lf p k j h hj;exact absurd h.symm hj
 | cons c t ih =>
   intro sg lf p k j h hj rest acc n
   have hs:=sgn_split _ _ _ _ _ h hj
   have e:j-k=(j-(k+1))+1:=by omega
   rw[e,List.take_succ_cons,List.cons_append]
   unfold sgnGo at h
   split at h
   ·rename_i hok
    split at h
    ·rename_i hz
     subst h
     rw[show k+1-(k+1)=0 by omega,List.take_zero,List.nil_append]
     rw[readM_on (st':=.plain) (e:=p++[c]) (by show stepQ (.sign sg lf p) c=_;rw[step_sign,if_pos hok,if_pos hz]) (by intro e;cases e)]
     simp
    ·rename_i hz
     have:=ih _ _ (p++[c]) _ _ h hj rest (acc++[]) (n+1)
     rw[readM_on (st':=.sign (sgU sg lf c.toNat) (lfU lf c.toNat) (p++[c])) (e:=[]) (by show stepQ (.sign sg lf p) c=_;rw[step_sign,if_pos hok,if_neg hz]) (by intro e;cases e),this]
     simp
     congr 1
     omega
   ·exact absurd h.symm hj
theorem letE_esc {c:UInt8} (h:escN c≠0):stepM 39 .esc (escN c)=some (.plain,[c]):=by
 rcases escN_cases h with rfl|rfl|rfl|rfl|rfl|rfl|rfl<;>rfl
theorem name_readM:∀ (f:Nat) (m acc rest:List UInt8) (n:Nat),m.length<f→badU m = -1→readM 39 .plain (nameM m++39 :: rest) acc n=some (acc++m,n+(nameM m).length+1)
 | 0,m,acc,rest,n,h,_=>by omega
 | f+1,[],acc,rest,n,h,_=>by
   show readM 39 .plain (39 :: rest) acc n=_
   rw[readM_done (by rw[stepM_plain,if_pos rfl])]
   rfl
 | f + 1, c :: t,acc,rest,n,h,hb=>by
   obtain ⟨h0,hd⟩:=sgn_good (c :: t) 0 0 0 stU_zero hb (.inl (by simp))
   have h0:sgnL (c :: t)≠0:=h0
   have hd:badU ((c :: t).drop (sgnL (c :: t)-0)) = -1:=hd
   rw[Nat.sub_zero] at hd
   have hon:goOn (sgnL (c :: t))=sgnL (c :: t):=if_neg h0
   rw[nameM_cons,hon]
   generalize hk:sgnL (c :: t)=k at *
   have hs:=sgnL_take hk h0 []
   have ih:=fun acc n=>name_readM f ((c :: t).drop k) acc rest n (by rw[List.length_drop];simp at h ⊢;omega) hd
   rw[List.append_assoc,List.length_append]
   have fin:∀ x:List UInt8,readM 39 .plain (pieceM (c :: t) k++x) acc n=readM 39 .plain x (acc++(c :: t).take k) (n+(pieceM (c :: t) k).length):=by
     intro x
     rw[pieceM_cons,if_neg h0]
     by_cases he:escN c≠0
     ·rw[if_pos he]
      have hk1:k=1:=by rw[← hk];exact sgn_small c t (by rcases escN_cases he with rfl|rfl|rfl|rfl|rfl|rfl|rfl<;>decide)
      subst hk1
      show readM 39 .plain (92 :: escN c :: x) acc n=_
      rw[readM_on (st':=.esc) (e:=[]) (by rfl) (by intro e;cases e),readM_on (st':=.plain) (e:=[c]) (letE_esc he) (by intro e;cases e)]
      simp
     rw[if_neg he]
     by_cases h2:c.toNat<32
     ·rw [if_pos h2]
      have hk1:k=1:=by rw[← hk];exact sgn_small c t (by omega)
      subst hk1
      show readM 39 .plain (92 :: 117 :: 48 :: 48 :: lowB (c.toNat/16) :: lowB (c.toNat%16) :: x) acc n=_
      have e1:=hex_low (c.toNat/16) (by omega)
      have e2:=hex_low (c.toNat%16) (by omega)
      have ev:(((c.toNat/16:Nat):Int))*16+((c.toNat%16:Nat):Int)=c.toNat:=by omega
      rw [readM_on (st':=.esc) (e:=[]) (by rfl) (by intro e;cases e),readM_on (st':=.hex 0 0) (e:=[]) (by rfl) (by intro e;cases e),readM_on (st':=.hex 1 0) (e:=[]) (by rfl) (by intro e;cases e),readM_on (st':=.hex 2 0) (e:=[]) (by rfl) (by intro e;cases e),
        readM_on (st':=.hex 3 ((c.toNat/16:Nat):Int)) (e:=[]) (by show stepQ (.hex 2 0) _=_;rw[step_hex _ _ _ _ e1,if_neg (by omega),if_neg (by omega)];simp) (by intro e;cases e),
        readM_on (st':=.plain) (e:=[c]) (by show stepQ (.hex 3 _) _=_;rw[step_hex _ _ _ _ e2,ev,if_neg (by omega),if_pos rfl,if_neg (by omega),ofB_small c (by omega)]) (by intro e;cases e)]
      simp[ctlN]
     rw[if_neg h2]
     have hq:c≠39:=fun e=>by subst e;exact he (by decide)
     have hbs:c≠92:=fun e=>by subst e;exact he (by decide)
     rw[sgn_cons] at hk
     split at hk
     ·rename_i hok
      split at hk
      ·rename_i hz
       subst hk
       show readM 39 .plain (c :: x) acc n=_
       rw[readM_on (st':=.plain) (e:=[c]) (by rw[stepM_plain,if_neg hq,if_neg hbs,if_neg h2,if_pos hok,if_pos hz]) (by intro e;cases e)]
       simp
      ·rename_i hz
       have hs2:=sgn_split _ _ _ _ _ hk h0
       have e:k=(k-1)+1:=by omega
       have hr:=readM_sign 39 t _ _ [c] _ _ hk h0 x (acc++[]) (n+1)
       rw[e,List.take_succ_cons,List.cons_append,readM_on (st':=.sign (sgU 0 0 c.toNat) (lfU 0 c.toNat) [c]) (e:=[]) (by rw[stepM_plain,if_neg hq,if_neg hbs,if_neg h2,if_pos hok,if_neg hz]) (by intro e;cases e),hr]
       simp
       congr 1
       rw[Nat.min_eq_left (by omega)]
       omega
     ·exact absurd hk.symm h0
   rw[fin,ih,List.append_assoc,List.take_append_drop]
   congr 2
   omega
theorem sng_back {m:List UInt8} (h:badU m = -1) (rest:List UInt8):sngR (nameM m++39 :: rest)=some (m,rest):=by
 rw[← sng_readM,name_readM (m.length+1) m [] rest 1 (Nat.lt_succ_self _) h]
 show some (([]:List UInt8)++m,(39 :: (nameM m++39 :: rest)).drop (1+(nameM m).length+1))=_
 rw[show 1+(nameM m).length+1=((nameM m).length+1)+1 by omega,List.drop_succ_cons,List.nil_append]
 congr 2
 rw[show (nameM m).length+1=(nameM m).length+1 from rfl,← List.drop_drop,List.drop_left]
 rfl
theorem numT_ne (v:Int) (rest:List UInt8):(numT v++rest).head?≠some 42∧(numT v++rest).head?≠some 39∧(numT v++rest).head?≠some 34∧(numT v++rest).head?≠some 58 :=
 ⟨(numH_num v rest).ne 42 (by decide) (by decide),(numH_num v rest).ne 39 (by decide) (by decide),(numH_num v rest).ne 34 (by decide) (by decide),(numH_num v rest).ne 58 (by decide) (by decide)⟩
theorem selT_slice (a b:Option Int) (c:Int) (ha:MaxQ (a.getD 0)) (hb:MaxQ (b.getD 0)) (hc:MaxQ c) (rest:List UInt8):selT (sqS a b c)++rest=optT a++58 :: (optT b++tailC c rest):=by
 unfold selT
 rw[good_slice ha hb hc,if_neg (by decide)]
 cases a<;>cases b<;>simp[sqS,tailC,optT]<;>rfl
theorem sel_back {y:Sel} (hg:goodB y=true) {rest:List UInt8} (he:EndS rest):selR (selT y++rest)=some (y,rest):=by
 rcases good_cases hg with rfl|⟨m,rfl,hm⟩|⟨v,rfl,hv⟩|⟨a,b,c,rfl,ha,hb,hc⟩
 ·have:selT sqA=[42]:=by decide +kernel
  rw[this]
  rfl
 ·have:selT (sqN m)++rest=39 :: (nameM m++39 :: rest):=by
    unfold selT
    rw[hg,if_neg (by decide),if_pos (show (sqN m).kind=0 from rfl)]
    show 39 :: (nameM m++[39])++rest=_
    simp
  rw[this]
  unfold selR
  rw[if_neg (by simp),if_pos (by rfl)]
  show (sngR (nameM m++39 :: rest)).map _=_
  rw[sng_back hm]
  rfl
 ·have:selT (sqI v)=numT v:=by
    unfold selT
    rw[hg,if_neg (by decide),if_neg (by simp[sqI]),if_neg (by simp[sqI]),if_pos (show (sqI v).kind=2 from rfl)]
    rfl
  rw[this]
  obtain ⟨n1,n2,n3,_⟩:=numT_ne v rest
  unfold selR
  rw[if_neg n1,if_neg n2,if_neg n3,intA_num hv rest he.noNum.run]
  dsimp only
  rw[he.skB,if_neg he.ne58]
  rfl
 ·rw [selT_slice a b c ha hb hc]
  have hback:=slcR_back a b hb hc he
  generalize optT b++tailC c rest=u at *
  cases a with
  | none =>
    rw[show optT none++58 :: u=58 :: u from rfl]
    unfold selR
    rw[if_neg (by simp),if_neg (by simp),if_neg (by simp),intA_no (noNum_colon u).none]
    dsimp only
    rw[skB_colon,if_pos (show (58 :: u).head?=some 58 from rfl),List.tail_cons,hback]
  | some v =>
    rw[show optT (some v)=numT v from rfl]
    obtain ⟨n1,n2,n3,_⟩:=numT_ne v (58 :: u)
    unfold selR
    rw[if_neg n1,if_neg n2,if_neg n3,intA_num (v:=v) ha (58 :: u) (noNum_colon u).run]
    dsimp only
    rw[skB_colon,if_pos (show (58 :: u).head?=some 58 from rfl),List.tail_cons,hback]
theorem sel_run {y:Sel} (hg:goodB y=true) (rest:List UInt8):runB (selT y++rest)=0:=by
 rcases good_cases hg with rfl|⟨m,rfl,hm⟩|⟨v,rfl,hv⟩|⟨a,b,c,rfl,ha,hb,hc⟩
 ·have:selT sqA=[42]:=by decide +kernel
  rw[this]
  exact runB_head (c:=42) rfl (by decide)
 ·have:selT (sqN m)++rest=39 :: (nameM m++39 :: rest):=by
    unfold selT
    rw[hg,if_neg (by decide),if_pos (show (sqN m).kind=0 from rfl)]
    show 39 :: (nameM m++[39])++rest=_
    simp
  rw[this]
  exact runB_head (c:=39) rfl (by decide)
 ·have:selT (sqI v)=numT v:=by
    unfold selT
    rw[hg,if_neg (by decide),if_neg (by simp[sqI]),if_neg (by simp[sqI]),if_pos (show (sqI v).kind=2 from rfl)]
    rfl
  rw[this]
  exact (numH_num v rest).run
 ·rw[selT_slice a b c ha hb hc]
  cases a with
  | none=>exact runB_head (c:=58) rfl (by decide)
  | some v=>exact (numH_num v _).run
theorem brk_back:∀ (f:Nat) (ys:List Sel) (acc:List Sel) (rest:List UInt8),ys≠[]→ys.length≤f→ys.all goodB=true→brkR f (selsT ys++93 :: rest) acc=some (acc++ys,rest)
 | 0,ys,acc,rest,h,hl,_=>absurd (List.eq_nil_of_length_eq_zero (by omega)) h
 | f+1,[],acc,rest,h,hl,_=>absurd rfl h
 | f + 1,[y],acc,rest,h,hl,hg=>by
   have hg:goodB y=true:=by simpa using hg
   have he:EndS (93 :: rest):=.inl rfl
   rw[brkR_on]
   show (match nxR (skB (selT y++93 :: rest)) with
     | none=>none
     | some (x,t)=>if t.head?=some 44 then brkR f t.tail (acc++[x]) else some (acc++[x],t.tail))=_
   unfold nxR
   rw[skB_id (sel_run hg _),sel_back hg he]
   show (match endP (y,93 :: rest) with
     | none=>none
     | some (x,t)=>if t.head?=some 44 then brkR f t.tail (acc++[x]) else some (acc++[x],t.tail))=_
   unfold endP
   rw[show skB (y,93 :: rest).2=93 :: rest from he.skB,if_pos he]
   rfl
 | f + 1,y :: z :: t,acc,rest,h,hl,hg=>by
   have hg':goodB y=true∧(z :: t).all goodB=true:=by rw[List.all_cons,Bool.and_eq_true] at hg;exact hg
   obtain ⟨hg1,hg2⟩:=hg'
   have he:EndS (44 :: (selsT (z :: t)++93 :: rest)):=.inr rfl
   rw[brkR_on]
   have hx:selsT (y :: z :: t)++93 :: rest=selT y++44 :: (selsT (z :: t)++93 :: rest):=by
     show selT y++44 :: selsT (z :: t)++93 :: rest=_
     simp
   rw[hx]
   unfold nxR
   rw[skB_id (sel_run hg1 _),sel_back hg1 he]
   show (match endP (y,44 :: (selsT (z :: t)++93 :: rest)) with
     | none=>none
     | some (x,t)=>if t.head?=some 44 then brkR f t.tail (acc++[x]) else some (acc++[x],t.tail))=_
   unfold endP
   rw[show skB (y,44 :: (selsT (z :: t)++93 :: rest)).2=44 :: (selsT (z :: t)++93 :: rest) from he.skB,if_pos he]
   show brkR f (selsT (z :: t)++93 :: rest) (acc++[y])=_
   rw[brk_back f (z :: t) (acc++[y]) rest (by simp) (by simp at hl ⊢;omega) hg2,List.append_assoc]
   rfl
theorem selT_pos {y:Sel} (hg:goodB y=true):1≤(selT y).length:=by
 cases h:selT y with
 | nil =>
   have:=sel_back hg (rest:=[93]) (.inl rfl)
   rw[h] at this
   have e:selR ([]++[93])=none:=by decide +kernel
   rw[e] at this
   cases this
 | cons a t=>simp
theorem selsT_len:∀ ys:List Sel,ys.all goodB=true→ys.length≤(selsT ys).length
 | [],_=>by simp
 | [y],hg=>selT_pos (by simpa using hg)
 | y :: z :: t,hg=>by
   have hg':goodB y=true∧(z :: t).all goodB=true:=by rw[List.all_cons,Bool.and_eq_true] at hg;exact hg
   have h1:=selT_pos hg'.1
   have h2:=selsT_len (z :: t) hg'.2
   show (z :: t).length+1≤(selT y++44 :: selsT (z :: t)).length
   rw[List.length_append]
   simp only [List.length_cons] at h2 ⊢
   omega
theorem sgm_back {x:Sgm} (h1:x.sels≠[]) (h2:x.sels.all goodB=true) (rest:List UInt8):sgmP (sgmT x++rest)=some (x,rest)∧runB (sgmT x++rest)=0:=by
 have hbrk:brkS (selsT x.sels++93 :: rest)=some (x.sels,rest):=by
   unfold brkS
   rw[brk_back _ x.sels [] rest h1 (by have:=selsT_len x.sels h2;rw[List.length_append];omega) h2]
   rfl
 obtain ⟨deep,ys⟩:=x
 have hbrk:brkS (selsT ys++93 :: rest)=some (ys,rest):=hbrk
 cases deep with
 | true =>
   have e:sgmT ⟨true,ys⟩++rest=46 :: 46 :: 91 :: (selsT ys++93 :: rest):=by simp[sgmT]
   rw[e]
   refine ⟨?_,runB_head (c:=46) rfl (by decide)⟩
   unfold sgmP
   rw[if_pos (by rfl),if_pos (by rfl)]
   show (brkS (selsT ys++93 :: rest)).map _=_
   rw[hbrk]
   rfl
 | false =>
   have e:sgmT ⟨false,ys⟩++rest=91 :: (selsT ys++93 :: rest):=by simp[sgmT]
   rw[e]
   refine ⟨?_,runB_head (c:=91) rfl (by decide)⟩
   unfold sgmP
   rw [if_neg (by intro e;cases hu:selsT ys++93 :: rest with
     | nil=>rw[hu] at e;cases e
     | cons a b=>rw[hu] at e;injection e with e _;exact absurd e (by decide)),if_pos (by rfl)]
   show (brkS (selsT ys++93 :: rest)).map _=_
   rw[hbrk]
   rfl
theorem sgmT_pos (x:Sgm):2≤(sgmT x).length:=by
 unfold sgmT
 rw[List.length_append]
 simp
 omega
theorem que_back:∀ (f:Nat) (xs acc:List Sgm),xs.length<f→rightQ xs=true→queR f (xs.flatMap sgmT) acc=some (acc++xs)
 | 0,xs,acc,h,_=>by omega
 | f+1,[],acc,h,_=>by rw[queR_on];simp
 | f+1,x :: t,acc,h,hr=>by
   have hr':(!x.sels.isEmpty&&x.sels.all goodB)=true∧rightQ t=true:=by unfold rightQ at hr ⊢;rw[List.all_cons,Bool.and_eq_true] at hr;exact hr
   obtain ⟨hr1,hr2⟩:=hr'
   rw[Bool.and_eq_true] at hr1
   have hne:x.sels≠[]:=fun e=>by rw[e] at hr1;exact absurd hr1.1 (by decide)
   obtain ⟨b1,b2⟩:=sgm_back hne hr1.2 (t.flatMap sgmT)
   have hp:=sgmT_pos x
   rw[queR_on,List.flatMap_cons,if_neg (fun e=>by have:=congrArg List.length e;rw[List.length_append] at this;simp at this;rw[this.1] at hp;simp at hp),skB_id b2,b1]
   show queR f (t.flatMap sgmT) (acc++[x])=_
   rw[que_back f t _ (by simp at h;omega) hr2,List.append_assoc]
   rfl
end
section
open Go.RowKit
theorem bad_small:∀ l:List UInt8,(∀ c∈l,c.toNat<128)→badU l = -1
 | [],_=>rfl
 | c :: t,h=>bad_cat (l:=[c]) (bad_one c (h c (by simp))) (bad_small t fun x hx=>h x (by simp[hx]))
theorem digB_small {c:UInt8} (h:digB c=true):c.toNat<128:=by
 have:=of_decide_eq_true h
 omega
theorem bad_digN (n:Nat):badU (digN n) = -1:=bad_small _ fun c hc=>digB_small (digN_all n c hc)
theorem bad_numT (v:Int):badU (numT v) = -1:=by
 unfold numT
 split
 ·exact bad_cat (l:=[45]) (by decide +kernel) (bad_digN _)
 ·exact bad_digN _
theorem lowB_small (n:Nat):(lowB n).toNat<128:=by
 unfold lowB
 split
 ·rename_i h
  rw[UInt8.toNat_ofNat_of_lt' (by show 48+n<256;omega)]
  omega
 split
 ·rename_i h
  rw[UInt8.toNat_ofNat_of_lt' (by show 87+n<256;omega)]
  omega
 ·decide
theorem bad_nameM:∀ (f:Nat) (m:List UInt8),m.length<f→badU m = -1→badU (nameM m) = -1
 | 0,m,h,_=>by omega
 | f+1,[],h,_=>rfl
 | f + 1,c :: t,h,hb=>by
   obtain ⟨h0,hd⟩:=sgn_good (c :: t) 0 0 0 stU_zero hb (.inl (by simp))
   have h0:sgnL (c :: t)≠0:=h0
   have hd:badU ((c :: t).drop (sgnL (c :: t)-0)) = -1:=hd
   rw[Nat.sub_zero] at hd
   have hv:=sgn_valid (c :: t) 0 0 [] 0 (sgnL (c :: t)) rfl h0 reach_nil
   rw[Nat.sub_zero,List.nil_append] at hv
   have hon:goOn (sgnL (c :: t))=sgnL (c :: t):=if_neg h0
   rw[nameM_cons,hon]
   generalize hk:sgnL (c :: t)=k at *
   have hs:=sgnL_take hk h0 []
   refine bad_cat ?_ (bad_nameM f _ (by rw[List.length_drop];simp at h ⊢;omega) hd)
   rw[pieceM_cons,if_neg h0]
   split
   ·rename_i he
    refine bad_small _ fun x hx => ?_
    rcases List.mem_cons.1 hx with rfl|hx
    ·decide
    ·rw[List.mem_singleton.1 hx]
     rcases escN_cases he with rfl|rfl|rfl|rfl|rfl|rfl|rfl<;>decide
   split
   ·refine bad_small _ fun x hx => ?_
    unfold ctlN at hx
    simp only [List.mem_cons,List.not_mem_nil,or_false] at hx
    rcases hx with rfl|rfl|rfl|rfl|rfl|rfl
    ·decide
    ·decide
    ·decide
    ·decide
    ·exact lowB_small _
    ·exact lowB_small _
   ·exact hv
theorem bad_selT (y:Sel):badU (selT y) = -1:=by
 by_cases hg:goodB y=true
 rotate_left
 ·unfold selT
  rw[if_pos (by cases h:goodB y;rfl;exact absurd h hg)]
  rfl
 rcases good_cases hg with rfl|⟨m,rfl,hm⟩|⟨v,rfl,hv⟩|⟨a,b,c,rfl,ha,hb,hc⟩
 ·decide +kernel
 ·unfold selT
  rw[hg,if_neg (by decide),if_pos (show (sqN m).kind=0 from rfl)]
  show badU (39 :: (nameM m++[39])) = -1
  exact bad_cat (l:=[39]) (by decide +kernel) (bad_cat (bad_nameM _ m (Nat.lt_succ_self _) hm) (by decide +kernel))
 ·unfold selT
  rw[hg,if_neg (by decide),if_neg (by simp[sqI]),if_neg (by simp[sqI]),if_pos (show (sqI v).kind=2 from rfl)]
  exact bad_numT _
 ·unfold selT
  rw[hg,if_neg (by decide),if_neg (by simp[sqS]),if_neg (by simp[sqS]),if_neg (by simp[sqS])]
  refine bad_cat ?_ (bad_cat (l:=[58]) (by decide +kernel) (bad_cat ?_ ?_))
  ·split
   ·exact bad_numT _
   ·rfl
  ·split
   ·exact bad_numT _
   ·rfl
  ·split
   ·rfl
   ·exact bad_cat (l:=[58]) (by decide +kernel) (bad_numT _)
theorem bad_selsT:∀ ys:List Sel,badU (selsT ys) = -1
 | []=>rfl
 | [y]=>bad_selT y
 | y :: z :: t=>bad_cat (bad_selT y) (bad_cat (l:=[44]) (by decide +kernel) (bad_selsT (z :: t)))
theorem bad_sgmT (x:Sgm):badU (sgmT x) = -1:=by
 unfold sgmT
 refine bad_cat ?_ (bad_cat (l:=[91]) (by decide +kernel) (bad_cat (bad_selsT _) (by decide +kernel)))
 split
 ·decide +kernel
 ·rfl
theorem bad_flat:∀ xs:List Sgm,badU (xs.flatMap sgmT) = -1
 | []=>rfl
 | x :: t=>by rw[List.flatMap_cons];exact bad_cat (bad_sgmT x) (bad_flat t)
theorem flat_two:∀ xs:List Sgm,xs.length≤(xs.flatMap sgmT).length
 | []=>Nat.le_refl _
 | x :: t=>by
   have h1:=sgmT_pos x
   have h2:=flat_two t
   rw[List.flatMap_cons,List.length_append]
   show t.length+1≤_
   omega
theorem queQ_put {xs:List Sgm} (h:rightQ xs=true):queQ (putQ xs)=some xs:=by
 have hb:badU (36 :: xs.flatMap sgmT) = -1:=bad_cat (l:=[36]) (by decide +kernel) (bad_flat xs)
 have hf:=flat_two xs
 unfold putQ
 rw[if_pos h,queQ_is,if_pos ⟨hb,rfl⟩]
 show queR ((36 :: xs.flatMap sgmT).length+1) (xs.flatMap sgmT) []=_
 rw[que_back _ xs [] (by show xs.length<(xs.flatMap sgmT).length+1+1;omega) h]
 rfl
theorem queQ_empty {xs:List Sgm} (h:rightQ xs=false):putQ xs=[]∧queQ (putQ xs)=none:=by
 have e:putQ xs=[]:=by unfold putQ;rw[h];rfl
 rw[e]
 exact ⟨rfl,by rw[queQ_is,if_neg (fun h=>by cases h.2)]⟩
theorem put_ne {xs:List Sgm} (h:rightQ xs=true):putQ xs≠[]:=by
 unfold putQ
 rw[if_pos h]
 simp
theorem put_some {xs:List Sgm}:(queQ (putQ xs)).isSome=rightQ xs:=by
 cases h:rightQ xs with
 | true=>rw[queQ_put h];rfl
 | false=>rw[(queQ_empty h).2];rfl
end
section
open Go.RowKit
theorem numT_len {v:Int} (h:MaxQ v):(numT v).length≤17:=by
 unfold MaxQ at h
 unfold numT
 split
 ·have:=digN_16 (v:=(-v).toNat) (by omega)
  simp
  omega
 ·have:=digN_16 (v:=v.toNat) (by omega)
  omega
theorem numT_size {v:Int}(h:MaxQ v):(⟨(numT v).toArray⟩:ByteArray).size≤17:=numT_len h
end
end Go.Proofs.YtmgdjlkndbejkaaGreatDoor
