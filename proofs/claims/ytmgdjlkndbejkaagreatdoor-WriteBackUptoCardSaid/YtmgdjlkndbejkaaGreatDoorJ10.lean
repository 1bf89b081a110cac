/- Lemmas. -/
import Derived.Test.YtmgdjlkndbejkaaGreatDoorJ07
import Derived.Laws.RangeAny
import Derived.Laws.Cover4
import Derived.Lib.RuneBytes
set_option maxRecDepth 100000
set_option maxHeartbeats 8000000
set_option linter.unusedVariables false
namespace Go.Proofs.YtmgdjlkndbejkaaGreatDoor
section
open Go.RowKit
theorem ofB_one {m:Int} {a:UInt8} (h:m<128) (e:m=a.toNat):ofB m=[a]:=by
 unfold ofB
 rcases ofI_is (n:=m) with ⟨_,h1⟩|⟨_,_,h1⟩|⟨_,_,h1⟩|⟨_,h1⟩<;>first|(exfalso;omega)|(rw[h1];simp[e])
theorem ofB_two {m:Int} {a b:UInt8} (h:128≤m) (h':m<2048) (ea:192+m/64=a.toNat) (eb:128+m%64=b.toNat):ofB m=[a,b]:=by
 unfold ofB
 rcases ofI_is (n:=m) with ⟨_,h1⟩|⟨_,_,h1⟩|⟨_,_,h1⟩|⟨_,h1⟩<;>first|(exfalso;omega)|(rw[h1];simp[ea,eb])
theorem ofB_three {m:Int} {a b c:UInt8} (h:2048≤m) (h':m<65536) (ea:224+m/4096=a.toNat) (eb:128+m/64%64=b.toNat) (ec:128+m%64=c.toNat):ofB m=[a,b,c]:=by
 unfold ofB
 rcases ofI_is (n:=m) with ⟨_,h1⟩|⟨_,_,h1⟩|⟨_,_,h1⟩|⟨_,h1⟩<;>first|(exfalso;omega)|(rw[h1];simp[ea,eb,ec])
theorem ofB_le4 {m:Int} {a b c d:UInt8} (h:65536≤m) (ea:240+m/262144=a.toNat) (eb:128+m/4096%64=b.toNat) (ec:128+m/64%64=c.toNat) (ed:128+m%64=d.toNat):ofB m=[a,b,c,d]:=by
 unfold ofB
 rcases ofI_is (n:=m) with ⟨_,h1⟩|⟨_,_,h1⟩|⟨_,_,h1⟩|⟨_,h1⟩<;>first|(exfalso;omega)|(rw[h1];simp[ea,eb,ec,ed])
def Sgn (v:Int):Prop:=0≤v∧v≤1114111∧(v<55296∨57343<v)
theorem okU_bdn {sg c:Int}(h:okU sg 1 c=true):128≤c∧c≤191:=okU_bd (by decide) h
theorem sign_end {p:List UInt8} {sg lf:Int} {c:UInt8} (h:InvL p sg lf) (hk:okU sg lf c.toNat=true) (hl:lfU lf c.toNat=0) :
   ofB (sgU sg lf c.toNat)=p++[c]∧Sgn (sgU sg lf c.toNat):=by
 have h256:=UInt8.toNat_lt c
 match p,h with
 | [], h =>
   have h:lf=0:=h
   subst h
   have hc:(c.toNat:Int)<128:=by
     by_cases h:(c.toNat:Int)<128
     ·exact h
     ·exfalso
      revert hl
      unfold lfU
      rw[if_pos rfl,if_neg h]
      by_cases h2:(c.toNat:Int)<224
      ·rw[if_pos h2];omega
      ·rw[if_neg h2]
       by_cases h3:(c.toNat:Int)<240
       ·rw[if_pos h3];omega
       ·rw[if_neg h3];omega
   have e:sgU sg 0 c.toNat=c.toNat:=by unfold sgU;rw[if_pos rfl,if_pos hc]
   rw[e]
   exact ⟨ofB_one hc rfl,by unfold Sgn;omega⟩
 | [a],h =>
   have h:(194≤a.toNat∧a.toNat≤223∧lf=1∧sg=a.toNat-192)∨(224≤a.toNat∧a.toNat≤239∧lf=2∧sg=a.toNat-224)∨(240≤a.toNat∧a.toNat≤244∧lf=3∧sg=a.toNat-240):=h
   rcases h with ⟨h1,h2,rfl,rfl⟩|⟨h1,h2,rfl,rfl⟩|⟨h1,h2,rfl,rfl⟩
   ·have:=okU_bdn hk
    have e:sgU ((a.toNat:Int)-192) 1 c.toNat=((a.toNat:Int)-192)*64+(c.toNat-128):=rfl
    rw[e]
    exact ⟨ofB_two (by omega) (by omega) (by omega) (by omega),by unfold Sgn;omega⟩
   ·exact absurd hl (by simp[lfU])
   ·exact absurd hl (by simp[lfU])
 | [a, b],h =>
   have h:128≤b.toNat∧b.toNat≤191∧((224≤a.toNat∧a.toNat≤239∧lf=1∧sg=(a.toNat-224)*64+b.toNat-128∧32≤sg∧(sg<864∨896≤sg))∨(240≤a.toNat∧a.toNat≤244∧lf=2∧sg=(a.toNat-240)*64+b.toNat-128∧16≤sg∧sg≤271)):=h
   obtain ⟨hb1,hb2,⟨h1,h2,rfl,e,h3,h4⟩|⟨h1,h2,rfl,e,h3,h4⟩⟩:=h
   ·have:=okU_bdn hk
    have e1:sgU sg 1 c.toNat=sg*64+(c.toNat-128):=rfl
    rw[e1]
    exact ⟨ofB_three (by omega) (by omega) (by omega) (by omega) (by omega),by unfold Sgn;omega⟩
   ·exact absurd hl (by simp[lfU])
 | [a,b,d],h =>
   have h:128≤b.toNat∧b.toNat≤191∧128≤d.toNat∧d.toNat≤191∧240≤a.toNat∧a.toNat≤244∧lf=1∧sg=((a.toNat-240)*64+b.toNat-128)*64+d.toNat-128∧1024≤sg∧sg≤17407:=h
   obtain ⟨hb1,hb2,hd1,hd2,h1,h2,rfl,e,h3,h4⟩:=h
   have:=okU_bdn hk
   have e1:sgU sg 1 c.toNat=sg*64+(c.toNat-128):=rfl
   rw[e1]
   exact ⟨ofB_le4 (by omega) (by omega) (by omega) (by omega) (by omega),by unfold Sgn;omega⟩
 | _ :: _ :: _ :: _ :: _,h=>exact absurd h (by simp[InvL])
theorem ofB_enc {v:Int} (h:Sgn v):Lib.encodeRune v=ofB v:=by
 obtain ⟨h0,h1,h2⟩:=h
 unfold Lib.encodeRune ofB
 rcases ofI_is (n:=v) with ⟨_,e⟩|⟨_,_,e⟩|⟨_,_,e⟩|⟨_,e⟩
 ·rw[e,Lib.encodeRuneZ_one h0 (by omega)]
 ·rw[e,Lib.encodeRuneZ_two (by omega) (by omega)]
 ·rw[e,Lib.encodeRuneZ_three (by omega)]
 ·rw[e,Lib.encodeRuneZ_four (by omega) (by omega)]
theorem ofNat_int (k:Nat)(x:Int)(h:x=k):UInt8.ofNat x.toNat=UInt8.ofNat k:=by rw[h];rfl
theorem enc_ofB {v:Int} (h:Sgn v):(Utf8.encode v).data.toList=ofB v:=by
 obtain ⟨h0,h1,h2⟩:=h
 have hv:Utf8.valid v=true:=by
   unfold Utf8.valid
   rw[Bool.or_eq_true,Bool.and_eq_true,Bool.and_eq_true]
   simp only [decide_eq_true_eq]
   omega
 have hn:(v.toNat:Int)=v:=Int.toNat_of_nonneg h0
 unfold Utf8.encode
 simp only [hv,if_true]
 unfold ofB
 generalize v.toNat=n at *
 subst hn
 rcases ofI_is (n:=(n:Int)) with ⟨_,e⟩|⟨_,_,e⟩|⟨_,_,e⟩|⟨_,e⟩
 ·rw[if_pos (by omega),e];simp
 ·rw[if_neg (by omega),if_pos (by omega),e]
  show [UInt8.ofNat (192+n/64),UInt8.ofNat (128+n%64)]=[UInt8.ofNat (192+(n:Int)/64).toNat,UInt8.ofNat (128+(n:Int)%64).toNat]
  rw[ofNat_int (192+n/64) _ (by omega),ofNat_int (128+n%64) _ (by omega)]
 ·rw[if_neg (by omega),if_neg (by omega),if_pos (by omega),e]
  show [UInt8.ofNat (224+n/4096),UInt8.ofNat (128+n/64%64),UInt8.ofNat (128+n%64)]=[UInt8.ofNat (224+(n:Int)/4096).toNat,UInt8.ofNat (128+(n:Int)/64%64).toNat,UInt8.ofNat (128+(n:Int)%64).toNat]
  rw[ofNat_int (224+n/4096) _ (by omega),ofNat_int (128+n/64%64) _ (by omega),ofNat_int (128+n%64) _ (by omega)]
 ·rw[if_neg (by omega),if_neg (by omega),if_neg (by omega),e]
  show [UInt8.ofNat (240+n/262144),UInt8.ofNat (128+n/4096%64),UInt8.ofNat (128+n/64%64),UInt8.ofNat (128+n%64)]=[UInt8.ofNat (240+(n:Int)/262144).toNat,UInt8.ofNat (128+(n:Int)/4096%64).toNat,UInt8.ofNat (128+(n:Int)/64%64).toNat,UInt8.ofNat (128+(n:Int)%64).toNat]
  rw[ofNat_int (240+n/262144) _ (by omega),ofNat_int (128+n/4096%64) _ (by omega),ofNat_int (128+n/64%64) _ (by omega),ofNat_int (128+n%64) _ (by omega)]
def encs (vs:List Int):List UInt8:=vs.flatMap ofB
theorem encs_snoc (vs:List Int)(v:Int):encs (vs++[v])=encs vs++ofB v:=by simp[encs]
theorem ofB_pos (v:Int):1≤(ofB v).length:=by
 unfold ofB ofI
 (repeat' split)<;>simp
theorem encs_len (vs:List Int):vs.length≤(encs vs).length∧(encs vs).length≤4*vs.length:=by
 induction vs with
 | nil=>simp[encs]
 | cons v t ih =>
   have h1:=ofB_pos v
   have h2:=ofB_len v
   have e:encs (v :: t)=ofB v++encs t:=by simp[encs]
   rw[e]
   simp
   omega
theorem runes_fold (vs:List Int) (h:∀ v∈vs,Sgn v):∀ r:ByteArray,(vs.foldl (fun r n=>r++Utf8.encode n) r).data.toList=r.data.toList++encs vs:=by
 induction vs with
 | nil=>intro r;simp[encs]
 | cons v t ih =>
   intro r
   rw[List.foldl_cons,ih (fun x hx=>h x (by simp[hx]))]
   have e:encs (v :: t)=ofB v++encs t:=by simp[encs]
   rw[e,ByteArray.data_append,Array.toList_append,enc_ofB (h v (by simp)),List.append_assoc]
theorem runesBytes_encs (vs:List Int) (h:∀ v∈vs,Sgn v):runesBytes vs=⟨(encs vs).toArray⟩:=by
 have:=runes_fold vs h ByteArray.empty
 have e:∀ a b:ByteArray,a.data.toList=b.data.toList→a=b:=fun a b h=>by
   cases a with|mk x=>cases b with|mk y=>exact congrArg ByteArray.mk (Array.toList_inj.1 h)
 apply e
 unfold runesBytes
 rw[this]
 simp
-- the first sign of a text, by its bytes
theorem sgn_none (c:UInt8) (t:List UInt8) (h:128≤c.toNat∧c.toNat<194∨245≤c.toNat):sgnL (c :: t)=0:=by
 rw[sgn_cons,if_neg (by unfold okU;rw[if_pos rfl];simp;omega)]
theorem ok_last (sg:Int) (c:UInt8):(okU sg 1 c.toNat=true)↔(128≤c.toNat∧c.toNat≤191):=by
 unfold okU lowU highU
 simp
 omega
theorem sgn_last (sg:Int) (t:List UInt8) (k:Nat):sgnGo sg 1 t k=match t with | []=>0|c :: _=>if 128≤c.toNat∧c.toNat≤191 then k+1 else 0:=by
 cases t with
 | nil=>rfl
 | cons c t =>
   show (if okU sg 1 c.toNat then (if lfU 1 c.toNat=0 then k+1 else _) else 0)=_
   rw[if_pos (show lfU 1 c.toNat=0 from rfl)]
   by_cases h:128≤c.toNat∧c.toNat≤191
   ·rw[if_pos ((ok_last sg c).2 h)];simp[h]
   ·rw[if_neg (fun e=>h ((ok_last sg c).1 e))];simp[h]
theorem sgn_more (sg lf:Int) (c:UInt8) (t:List UInt8) (k:Nat) (hl:2≤lf):sgnGo sg lf (c :: t) k=if lowU sg lf≤c.toNat∧(c.toNat:Int)≤highU sg lf then sgnGo (sg*64+(c.toNat-128)) (lf-1) t (k+1) else 0:=by
 show (if okU sg lf c.toNat then (if lfU lf c.toNat=0 then k+1 else sgnGo (sgU sg lf c.toNat) (lfU lf c.toNat) t (k+1)) else 0)=_
 have e1:lfU lf c.toNat=lf-1:=by unfold lfU;rw[if_neg (by omega)]
 have e2:sgU sg lf c.toNat=sg*64+(c.toNat-128):=by unfold sgU;rw[if_neg (by omega)]
 rw[e1,e2,if_neg (show ¬ (lf-1=0) by omega)]
 by_cases h:lowU sg lf≤c.toNat∧(c.toNat:Int)≤highU sg lf
 ·rw[if_pos h,if_pos (okU_n (by omega) h)]
 ·rw[if_neg h,if_neg]
  intro hk
  exact h (okU_more (by omega) hk)
theorem sgn_head (c:UInt8) (t:List UInt8) (h:194≤c.toNat) (h':c.toNat<245):sgnL (c :: t)=sgnGo (if (c.toNat:Int)<224 then c.toNat-192 else if (c.toNat:Int)<240 then c.toNat-224 else c.toNat-240) (if (c.toNat:Int)<224 then 1 else if (c.toNat:Int)<240 then 2 else 3) t 1:=by
 rw[sgn_cons,if_pos (okU_0 _ (by omega) 0)]
 have e1:lfU 0 c.toNat=if (c.toNat:Int)<224 then 1 else if (c.toNat:Int)<240 then 2 else 3:=by unfold lfU;rw[if_pos rfl,if_neg (by omega)]
 have e2:sgU 0 0 c.toNat=if (c.toNat:Int)<224 then (c.toNat:Int)-192 else if (c.toNat:Int)<240 then (c.toNat:Int)-224 else (c.toNat:Int)-240:=by unfold sgU;rw[if_pos rfl,if_neg (by omega)]
 rw[e1,e2,if_neg (by (repeat' split)<;>omega)]
def decG (a b c d:Nat) (k1 k2 k3:Bool):Nat×Nat :=
 if a<128 then (a,1)
 else if a/32==6&&k1 then (if a%32*64+b%64≥128 then (a%32*64+b%64,2) else (65533,1))
 else if a/16==14&&k1&&k2 then (if a%16*4096+b%64*64+c%64≥2048&&Utf8.valid (a%16*4096+b%64*64+c%64:Nat) then (a%16*4096+b%64*64+c%64,3) else (65533,1))
 else if a/8==30&&k1&&k2&&k3 then (if a%8*262144+b%64*4096+c%64*64+d%64≥65536&&Utf8.valid (a%8*262144+b%64*4096+c%64*64+d%64:Nat) then (a%8*262144+b%64*4096+c%64*64+d%64,4) else (65533,1))
 else (65533,1)
def contL (l:List UInt8)(k:Nat):Bool:=match l[k]? with|some c=>c.toNat/64==2|none=>false
def decL (l:List UInt8):Nat×Nat:=decG (l.getD 0 0).toNat (l.getD 1 0).toNat (l.getD 2 0).toNat (l.getD 3 0).toNat (contL l 1) (contL l 2) (contL l 3)
theorem decG_cong {a b c d b' c' d':Nat} {k1 k2 k3:Bool} (h1:k1=true→b=b') (h2:k2=true→c=c') (h3:k3=true→d=d'):decG a b c d k1 k2 k3=decG a b' c' d' k1 k2 k3:=by
 cases k1
 ·simp[decG]
 ·obtain rfl:=h1 rfl
  cases k2
  ·simp[decG]
  ·obtain rfl:=h2 rfl
   cases k3
   ·simp[decG]
   ·obtain rfl:=h3 rfl
    rfl
theorem get_drop (s:ByteArray) (i k:Nat) (h:i+k<s.size):(s.data.toList.drop i)[k]?=some (s.get! (i+k)):=by
 have h':i+k<s.data.toList.length:=h
 have e:s.get! (i+k)=s.data.toList[i+k]:=by
   show s.data[i+k]! = _
   rw[getElem!_pos s.data (i+k) h]
   rfl
 rw[e,List.getElem?_drop,List.getElem?_eq_getElem h']
theorem get_none (s:ByteArray) (i k:Nat) (h:¬ i+k<s.size):(s.data.toList.drop i)[k]?=none:=by
 apply List.getElem?_eq_none
 have:s.data.toList.length=s.size:=rfl
 simp
 omega
theorem dec_cont (s:ByteArray) (i k:Nat):(decide (i+k<s.size)&&(s.get! (i+k)).toNat/64==2)=contL (s.data.toList.drop i) k:=by
 unfold contL
 by_cases h:i+k<s.size
 ·rw[get_drop s i k h];simp[h]
 ·rw[get_none s i k h];simp[h]
theorem dec_list (s:ByteArray) (i:Nat) (h:i<s.size):Utf8.decode s i=decL (s.data.toList.drop i):=by
 have h0:(s.get! (i+0)).toNat=((s.data.toList.drop i).getD 0 0).toNat:=by rw[List.getD,get_drop s i 0 (by omega)];rfl
 have e:Utf8.decode s i=decG (s.get! (i+0)).toNat (s.get! (i+1)).toNat (s.get! (i+2)).toNat (s.get! (i+3)).toNat (decide (i+1<s.size)&&(s.get! (i+1)).toNat/64==2) (decide (i+2<s.size)&&(s.get! (i+2)).toNat/64==2) (decide (i+3<s.size)&&(s.get! (i+3)).toNat/64==2):=rfl
 have hk:∀ k,contL (s.data.toList.drop i) k=true→(s.get! (i+k)).toNat=((s.data.toList.drop i).getD k 0).toNat:=by
   intro k hk
   by_cases hh:i+k<s.size
   ·rw[List.getD,get_drop s i k hh];rfl
   ·unfold contL at hk
    rw[get_none s i k hh] at hk
    cases hk
 rw[e,dec_cont,dec_cont,dec_cont,h0]
 exact decG_cong (hk 1) (hk 2) (hk 3)
theorem val_iff (n:Nat):Utf8.valid (n:Nat)=decide (n<55296∨57344≤n∧n≤1114111):=by
 unfold Utf8.valid
 rw[Bool.eq_iff_iff]
 simp
 omega
def DecOk (l:List UInt8)(d:Nat×Nat):Prop:=(sgnL l=0∧d=(65533,1))∨(sgnL l≠0∧d.2=sgnL l∧ofB d.1=l.take (sgnL l)∧Sgn d.1)
theorem dec_sgn (c:UInt8) (t:List UInt8):DecOk (c :: t) (decL (c :: t)):=by
 have hc:=UInt8.toNat_lt c
 unfold DecOk
 have e0:decL (c :: t)=decG c.toNat (t.getD 0 0).toNat (t.getD 1 0).toNat (t.getD 2 0).toNat (contL t 0) (contL t 1) (contL t 2):=rfl
 rw[e0]
 have hh:c.toNat<128∨(128≤c.toNat∧c.toNat<192)∨(192≤c.toNat∧c.toNat<194)∨(194≤c.toNat∧c.toNat<224)∨(224≤c.toNat∧c.toNat<240)∨(240≤c.toNat∧c.toNat<245)∨(245≤c.toNat∧c.toNat<248)∨248≤c.toNat:=by omega
 rcases hh with h|h|h|h|h|h|h|h
 ·refine .inr ?_
  rw[sgn_small c t h]
  unfold decG
  rw[if_pos h]
  exact ⟨by decide,rfl,ofB_one (by simp;omega) rfl,by unfold Sgn;simp;omega⟩
 ·refine .inl ⟨sgn_none c t (by omega),?_⟩
  unfold decG
  have a1:(c.toNat/32==6)=false:=by simp;omega
  have a2:(c.toNat/16==14)=false:=by simp;omega
  have a3:(c.toNat/8==30)=false:=by simp;omega
  rw[if_neg (by omega)]
  simp[a1,a2,a3]
 ·refine .inl ⟨sgn_none c t (by omega),?_⟩
  unfold decG
  have a2:(c.toNat/16==14)=false:=by simp;omega
  have a3:(c.toNat/8==30)=false:=by simp;omega
  rw[if_neg (by omega)]
  have hx:∀ x:Nat,¬ c.toNat%32*64+x%64≥128:=fun x=>by omega
  simp only [a2,a3,Bool.false_and,Bool.false_eq_true,if_false,if_neg (hx _)]
  simp
 ·-- two bytes
  rw[sgn_head c t (by omega) (by omega),if_pos (by omega),if_pos (by omega),sgn_last]
  have a1:(c.toNat/32==6)=true:=by simp;omega
  have a2:(c.toNat/16==14)=false:=by simp;omega
  have a3:(c.toNat/8==30)=false:=by simp;omega
  cases t with
  | nil=>exact .inl ⟨rfl,by unfold decG;rw[if_neg (by omega)];simp[a2,a3,contL]⟩
  | cons b t =>
    have hb:=UInt8.toNat_lt b
    have k0:contL (b :: t) 0=(b.toNat/64==2):=rfl
    rw[k0]
    by_cases hP:128≤b.toNat∧b.toNat≤191
    ·have k1:(b.toNat/64==2)=true:=by simp;omega
     refine .inr ?_
     simp only [if_pos hP]
     unfold decG
     rw[if_neg (by omega),k1,a1]
     have g:(List.getD (b :: t) 0 0).toNat=b.toNat:=rfl
     rw[g,if_pos (show (true&&true)=true from rfl),if_pos (by omega)]
     refine ⟨by decide,rfl,?_,by unfold Sgn;simp;omega⟩
     exact ofB_two (by simp;omega) (by simp;omega) (by simp;omega) (by simp;omega)
    ·have k1:(b.toNat/64==2)=false:=by simp;omega
     refine .inl ?_
     simp only [if_neg hP]
     refine ⟨trivial,?_⟩
     unfold decG
     rw[if_neg (by omega),k1,a2,a3]
     simp
 ·-- three bytes
  rw[sgn_head c t (by omega) (by omega),if_neg (by omega),if_pos (by omega),if_neg (by omega),if_pos (by omega)]
  have a1:(c.toNat/32==6)=false:=by simp;omega
  have a2:(c.toNat/16==14)=true:=by simp;omega
  have a3:(c.toNat/8==30)=false:=by simp;omega
  cases t with
  | nil=>exact .inl ⟨rfl,by unfold decG;rw[if_neg (by omega)];simp[a1,a3,contL]⟩
  | cons b t =>
    have hb:=UInt8.toNat_lt b
    rw[sgn_more _ _ _ _ _ (by omega)]
    have k0:contL (b :: t) 0=(b.toNat/64==2):=rfl
    have kk1:contL (b :: t) 1=contL t 0:=rfl
    have g0:(List.getD (b :: t) 0 0).toNat=b.toNat:=rfl
    have g1:(List.getD (b :: t) 1 0).toNat=(List.getD t 0 0).toNat:=rfl
    rw[k0,kk1,g0,g1,show (2:Int)-1=1 from rfl,sgn_last]
    by_cases hP:128≤b.toNat∧b.toNat≤191
    case neg =>
      have k1:(b.toNat/64==2)=false:=by simp;omega
      refine .inl ⟨if_neg (fun e=>hP (by have:=lowU_in (c.toNat-224) 2;have:=highU_in (c.toNat-224) 2;omega)),?_⟩
      unfold decG
      rw[if_neg (by omega),k1,a1,a3]
      simp
    have k1:(b.toNat/64==2)=true:=by simp;omega
    cases t with
    | nil=>exact .inl ⟨by simp,by unfold decG;rw[if_neg (by omega)];simp[a1,a3,contL]⟩
    | cons d t =>
      have hd:=UInt8.toNat_lt d
      have k2:contL (d :: t) 0=(d.toNat/64==2):=rfl
      have g2:(List.getD (d :: t) 0 0).toNat=d.toNat:=rfl
      rw[k2,g2]
      by_cases hQ:128≤d.toNat∧d.toNat≤191
      case neg =>
        have k3:(d.toNat/64==2)=false:=by simp;omega
        refine .inl ⟨by simp only [if_neg hQ];simp,?_⟩
        unfold decG
        rw[if_neg (by omega),k3,a1,a3]
        simp
      have k3:(d.toNat/64==2)=true:=by simp;omega
      simp only [if_pos hQ]
      have hlo:lowU (c.toNat-224) 2=if c.toNat=224 then 160 else 128:=by unfold lowU;(repeat' split)<;>omega
      have hhi:highU (c.toNat-224) 2=if c.toNat=237 then 159 else 191:=by unfold highU;(repeat' split)<;>omega
      rw[hlo,hhi]
      have hv:(decide (c.toNat%16*4096+b.toNat%64*64+d.toNat%64≥2048)&&Utf8.valid (c.toNat%16*4096+b.toNat%64*64+d.toNat%64:Nat))=decide (((if c.toNat=224 then 160 else 128:Int)≤b.toNat∧(b.toNat:Int)≤(if c.toNat=237 then 159 else 191))):=by
        rw[val_iff,Bool.eq_iff_iff]
        simp only [Bool.and_eq_true,decide_eq_true_eq]
        by_cases h1:c.toNat=224
        ·rw[if_pos h1,if_neg (by omega)];omega
        ·rw[if_neg h1]
         by_cases h2:c.toNat=237
         ·rw[if_pos h2];omega
         ·rw[if_neg h2];omega
      have hdec:decG c.toNat b.toNat d.toNat (List.getD (b :: d :: t) 2 0).toNat (b.toNat/64==2) (d.toNat/64==2) (contL (b :: d :: t) 2)=if ((if c.toNat=224 then 160 else 128:Int)≤b.toNat∧(b.toNat:Int)≤(if c.toNat=237 then 159 else 191)) then (c.toNat%16*4096+b.toNat%64*64+d.toNat%64,3) else (65533,1):=by
        unfold decG
        rw[if_neg (by omega),a1,a2,k1,k3]
        simp only [Bool.false_and,Bool.false_eq_true,if_false,Bool.and_self,if_true,hv,decide_eq_true_eq]
      rw[hdec]
      by_cases hok:((if c.toNat=224 then 160 else 128:Int)≤b.toNat∧(b.toNat:Int)≤(if c.toNat=237 then 159 else 191))
      ·rw[if_pos hok,if_pos hok]
       have hok':=hv.trans (decide_eq_true hok)
       rw[val_iff] at hok'
       simp only [Bool.and_eq_true,decide_eq_true_eq] at hok'
       refine .inr ⟨by omega,rfl,?_,by unfold Sgn;simp;omega⟩
       exact ofB_three (by simp;omega) (by simp;omega) (by simp;omega) (by simp;omega) (by simp;omega)
      ·rw[if_neg hok,if_neg hok]
       exact .inl ⟨rfl,rfl⟩
 ·-- four bytes
  rw[sgn_head c t (by omega) (by omega),if_neg (by omega),if_neg (by omega),if_neg (by omega),if_neg (by omega)]
  have a1:(c.toNat/32==6)=false:=by simp;omega
  have a2:(c.toNat/16==14)=false:=by simp;omega
  have a3:(c.toNat/8==30)=true:=by simp;omega
  cases t with
  | nil=>exact .inl ⟨rfl,by unfold decG;rw[if_neg (by omega)];simp[a1,a2,contL]⟩
  | cons b t =>
    have hb:=UInt8.toNat_lt b
    rw[sgn_more _ _ _ _ _ (by omega)]
    have k0:contL (b :: t) 0=(b.toNat/64==2):=rfl
    have kk1:contL (b :: t) 1=contL t 0:=rfl
    have kk2:contL (b :: t) 2=contL t 1:=rfl
    have g0:(List.getD (b :: t) 0 0).toNat=b.toNat:=rfl
    have g1:(List.getD (b :: t) 1 0).toNat=(List.getD t 0 0).toNat:=rfl
    have g2:(List.getD (b :: t) 2 0).toNat=(List.getD t 1 0).toNat:=rfl
    rw[k0,kk1,kk2,g0,g1,g2,show (3:Int)-1=2 from rfl]
    by_cases hP:128≤b.toNat∧b.toNat≤191
    case neg =>
      have k1:(b.toNat/64==2)=false:=by simp;omega
      refine .inl ⟨if_neg (fun e=>hP (by have:=lowU_in (c.toNat-240) 3;have:=highU_in (c.toNat-240) 3;omega)),?_⟩
      unfold decG
      rw[if_neg (by omega),k1,a1,a2]
      simp
    have k1:(b.toNat/64==2)=true:=by simp;omega
    have hlo:lowU (c.toNat-240) 3=if c.toNat=240 then 144 else 128:=by unfold lowU;(repeat' split)<;>omega
    have hhi:highU (c.toNat-240) 3=if c.toNat=244 then 143 else 191:=by unfold highU;(repeat' split)<;>omega
    rw[hlo,hhi]
    cases t with
    | nil=>exact .inl ⟨by simp[sgnGo],by unfold decG;rw[if_neg (by omega)];simp[a1,a2,contL]⟩
    | cons d t =>
      have hd:=UInt8.toNat_lt d
      have k2:contL (d :: t) 0=(d.toNat/64==2):=rfl
      have kk3:contL (d :: t) 1=contL t 0:=rfl
      have g3:(List.getD (d :: t) 0 0).toNat=d.toNat:=rfl
      have g4:(List.getD (d :: t) 1 0).toNat=(List.getD t 0 0).toNat:=rfl
      rw[k2,kk3,g3,g4,sgn_more _ _ _ _ _ (by omega),show (2:Int)-1=1 from rfl,sgn_last]
      by_cases hQ:128≤d.toNat∧d.toNat≤191
      case neg =>
        have k3:(d.toNat/64==2)=false:=by simp;omega
        have hq:∀ sg:Int,¬ (lowU sg 2≤d.toNat∧(d.toNat:Int)≤highU sg 2):=fun sg e=>hQ (by have:=lowU_in sg 2;have:=highU_in sg 2;omega)
        refine .inl ⟨by rw[if_neg (hq _)];simp,?_⟩
        unfold decG
        rw[if_neg (by omega),k3,a1,a2]
        simp
      have k3:(d.toNat/64==2)=true:=by simp;omega
      have hok2:(if c.toNat=240 then 144 else 128:Int)≤b.toNat→(lowU (((c.toNat:Int)-240)*64+(b.toNat-128)) 2≤d.toNat∧(d.toNat:Int)≤highU (((c.toNat:Int)-240)*64+(b.toNat-128)) 2):=by
        intro hge
        by_cases h1:c.toNat=240
        ·rw[if_pos h1] at hge
         unfold lowU highU
         rw[if_neg (by omega),if_neg (by omega),if_neg (by omega),if_neg (by omega)]
         omega
        ·unfold lowU highU
         rw[if_neg (by omega),if_neg (by omega),if_neg (by omega),if_neg (by omega)]
         omega
      cases t with
      | nil=>exact .inl ⟨by simp,by unfold decG;rw[if_neg (by omega)];simp[a1,a2,contL]⟩
      | cons f t =>
        have hf:=UInt8.toNat_lt f
        have k4:contL (f :: t) 0=(f.toNat/64==2):=rfl
        have g5:(List.getD (f :: t) 0 0).toNat=f.toNat:=rfl
        rw[k4,g5]
        by_cases hR:128≤f.toNat∧f.toNat≤191
        case neg =>
          have k5:(f.toNat/64==2)=false:=by simp;omega
          refine .inl ⟨by simp only [if_neg hR];simp,?_⟩
          unfold decG
          rw[if_neg (by omega),k5,a1,a2]
          simp
        have k5:(f.toNat/64==2)=true:=by simp;omega
        simp only [if_pos hR]
        have hv:(decide (c.toNat%8*262144+b.toNat%64*4096+d.toNat%64*64+f.toNat%64≥65536)&&Utf8.valid (c.toNat%8*262144+b.toNat%64*4096+d.toNat%64*64+f.toNat%64:Nat))=decide (((if c.toNat=240 then 144 else 128:Int)≤b.toNat∧(b.toNat:Int)≤(if c.toNat=244 then 143 else 191))):=by
          rw[val_iff,Bool.eq_iff_iff]
          simp only [Bool.and_eq_true,decide_eq_true_eq]
          by_cases h1:c.toNat=240
          ·rw[if_pos h1,if_neg (by omega)];omega
          ·rw[if_neg h1]
           by_cases h2:c.toNat=244
           ·rw[if_pos h2];omega
           ·rw[if_neg h2];omega
        have hdec:decG c.toNat b.toNat d.toNat f.toNat (b.toNat/64==2) (d.toNat/64==2) (f.toNat/64==2)=if ((if c.toNat=240 then 144 else 128:Int)≤b.toNat∧(b.toNat:Int)≤(if c.toNat=244 then 143 else 191)) then (c.toNat%8*262144+b.toNat%64*4096+d.toNat%64*64+f.toNat%64,4) else (65533,1):=by
          unfold decG
          rw[if_neg (by omega),a1,a2,a3,k1,k3,k5]
          simp only [Bool.false_and,Bool.false_eq_true,if_false,Bool.and_self,if_true,hv,decide_eq_true_eq]
        rw[hdec]
        by_cases hok:((if c.toNat=240 then 144 else 128:Int)≤b.toNat∧(b.toNat:Int)≤(if c.toNat=244 then 143 else 191))
        ·rw[if_pos hok,if_pos hok,if_pos (hok2 hok.1)]
         have hok':=hv.trans (decide_eq_true hok)
         rw[val_iff] at hok'
         simp only [Bool.and_eq_true,decide_eq_true_eq] at hok'
         refine .inr ⟨by omega,rfl,?_,by unfold Sgn;simp;omega⟩
         exact ofB_le4 (by simp;omega) (by simp;omega) (by simp;omega) (by simp;omega) (by simp;omega)
        ·rw[if_neg hok,if_neg hok]
         exact .inl ⟨rfl,rfl⟩
 ·refine .inl ⟨sgn_none c t (by omega),?_⟩
  unfold decG
  have a1:(c.toNat/32==6)=false:=by simp;omega
  have a2:(c.toNat/16==14)=false:=by simp;omega
  have hx:∀ x y z:Nat,Utf8.valid ((c.toNat%8*262144+x%64*4096+y%64*64+z%64:Nat):Int)=false:=fun x y z=>by rw[val_iff];simp;omega
  rw[if_neg (by omega)]
  simp only [a1,a2,hx,Bool.false_and,Bool.and_false,Bool.false_eq_true,if_false]
  simp
 ·refine .inl ⟨sgn_none c t (by omega),?_⟩
  unfold decG
  have a1:(c.toNat/32==6)=false:=by simp;omega
  have a2:(c.toNat/16==14)=false:=by simp;omega
  have a3:(c.toNat/8==30)=false:=by simp;omega
  rw[if_neg (by omega)]
  simp[a1,a2,a3]
end
section
open Go.RowKit
structure Touch (F:Nat→Prop) (w w':World):Prop where
 os:w'.os=w.os
 tape:w'.tape=w.tape
 output:w'.output=w.output
 size:w.heap.size≤w'.heap.size
 block:∀ k,k<w.heap.size→¬ F k→w'.heap[k]?=w.heap[k]?
section
variable {F G:Nat→Prop} {w w' w'':World}
theorem Touch.refl (F:Nat→Prop)(w:World):Touch F w w:=⟨rfl,rfl,rfl,Nat.le_refl _,fun _ _ _=>rfl⟩
theorem Touch.trans (h:Touch F w w') (g:Touch G w' w'') (hs:∀ k,k<w.heap.size→G k→F k):Touch F w w'' :=
 ⟨g.os.trans h.os,g.tape.trans h.tape,g.output.trans h.output,Nat.le_trans h.size g.size,
  fun k hk hn=>(g.block k (Nat.lt_of_lt_of_le hk h.size) (fun e=>hn (hs k hk e))).trans (h.block k hk hn)⟩
theorem Touch.mono (h:Touch F w w') (hs:∀ k,k<w.heap.size→F k→G k):Touch G w w' :=
 ⟨h.os,h.tape,h.output,h.size,fun k hk hn=>h.block k hk (fun e=>hn (hs k hk e))⟩
theorem Touch.of_below {B:Nat} (h:Below B w w') (hs:∀ k,k<w.heap.size→B≤k→F k):Touch F w w' :=
 ⟨h.os,h.tape,h.output,h.size,fun k hk hn=>h.block k (by
   by_cases hb:k<B
   ·exact hb
   ·exact absurd (hs k hk (by omega)) hn)⟩
theorem Touch.of_new (h:Below w.heap.size w w'):Touch F w w':=Touch.of_below h (fun k hk hB=>absurd hB (by omega))
theorem Touch.below {B:Nat} (h:Touch F w w') (hs:∀ k,k<w.heap.size→F k→B≤k) (hB:B≤w.heap.size):Below B w w' :=
 ⟨h.os,h.tape,h.output,h.size,fun k hk=>h.block k (by omega) (fun e=>by have:=hs k (by omega) e;omega)⟩
theorem Touch.of_turned {b:Nat} (h:Turned b w w') (hb:F b):Touch F w w' :=
 ⟨h.1,h.2.1,h.2.2.1,h.2.2.2.1,fun k hk hn=>h.2.2.2.2 k hk (fun e=>hn (e▸hb))⟩
theorem Touch.alloc (h:Touch F w w') (o:Obj):Touch F w (w'.alloc o) :=
 h.trans (Touch.of_new (F:=F) ((Below.refl _ _).alloc (Nat.le_refl _) o)) (fun _ _ h=>h)
theorem Touch.drewN (h:Touch F w w')(q:Nat):Touch F w (w'.drewN q):=⟨h.os,h.tape,h.output,h.size,h.block⟩
theorem Touch.setCell (h:Touch F w w') {p:Addr} (hp:F p.block∨w.heap.size≤p.block) (u:Value):Touch F w (w'.setCell p u) :=
 ⟨h.os,h.tape,h.output,by have:=h.size;simp[World.setCell];omega,fun k hk hn=>(Below.heap_setCell w' p u k (fun e=>by
   rcases hp with hp|hp
   ·exact hn (e▸hp)
   ·omega)).trans (h.block k hk hn)⟩
theorem Touch.grown {row:Option Nat} (h:Touch F w w') (hg:w'.grownBy w'' row) (hr:∀ k,row=some k→F k∨w.heap.size≤k):Touch F w w'' :=
 ⟨hg.os.trans h.os,hg.tape.trans h.tape,hg.output.trans h.output,Nat.le_trans h.size hg.size,fun k hk hn=>(hg.block k (Nat.lt_of_lt_of_le hk h.size) (fun e=>by
   rcases hr k e.symm with hh|hh
   ·exact hn hh
   ·omega)).trans (h.block k hk hn)⟩
theorem Touch.own {b:Nat}{t:TypeId}{cs:Array Value}(h:Touch F w w')(ho:Own w b t cs)(hn:¬ F b):Own w' b t cs:=(h.block b ho.inside hn).trans ho
theorem Touch.row {base:Nat} {e:TypeId} {v:Value} {n:Nat} {xs:List Value} (h:Touch F w w') (ho:w.ownsRow base e 1 v n xs) (hn:∀ g,v.ownBlock=some g→¬ F g):w'.ownsRow base e 1 v n xs:=by
 refine ⟨ho.1,?_⟩
 rcases ho.2 with hh|⟨g,c,cur,rfl,hb,hg,rest⟩
 ·exact .inl hh
 ·exact .inr ⟨g,c,cur,rfl,hb,(h.block g (Array.getElem?_eq_some_iff.1 hg).1 (hn g rfl)).trans hg,rest⟩
def RdS (w:World) (G:Nat→Prop) (A:Option Addr) (n:Nat) (xs:List Value):Prop :=
 xs.length=n∧(0<n → ∃ ad:Addr,A=some ad∧G ad.block ∧ ∀ j u,xs[j]?=some u→w.cell? (ad.add j)=some u)
variable {A:Option Addr} {n:Nat} {xs:List Value}
theorem RdS.stay (h:RdS w G A n xs) (ht:Touch F w w') (hd:∀ k,k<w.heap.size→G k→¬ F k):RdS w' G A n xs :=
 ⟨h.1,fun hn=>by
   obtain ⟨ad,e,hg,hc⟩:=h.2 hn
   refine ⟨ad,e,hg,fun j u hu => ?_⟩
   have:=hc j u hu
   have hin:=cell_inside this
   rw[add_block] at hin
   rw[World.cell?_of_block (w:=w) (by rw[add_block];exact ht.block _ hin (hd _ hin hg))]
   exact this⟩
theorem RdS.mono (h:RdS w F A n xs) (hs:∀ k,k<w.heap.size→F k→G k):RdS w G A n xs :=
 ⟨h.1,fun hn=>by
   obtain ⟨ad,e,hg,hc⟩:=h.2 hn
   have h0:0<xs.length:=by have:=h.1;omega
   have:=cell_inside (hc 0 xs[0] (List.getElem?_eq_getElem h0))
   rw[add_block] at this
   exact ⟨ad,e,hs _ this hg,hc⟩⟩
theorem RdS.of_row {base c:Nat} {e:TypeId} (h:w.ownsRow base e 1 (.slice A n c) n xs) (hG:∀ g,base≤g→g<w.heap.size→G g):RdS w G A n xs:=by
 refine ⟨by simpa using h.1,fun hn => ?_⟩
 have hl:=h.lt
 rcases h.2 with ⟨_,h0⟩|⟨g,cap,cur,hv,hb,hg,_⟩
 ·omega
 ·injection hv with hA _ _
  subst hA
  have:=hl g rfl
  exact ⟨_,rfl,hG _ this.1 this.2,h.cells (g:=g) rfl⟩
end
end
end Go.Proofs.YtmgdjlkndbejkaaGreatDoor
