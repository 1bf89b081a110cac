/- Lemmas. -/
import Derived.Test.YtmgdjlkndbejkaaGreatDoorJ13
import Derived.Lib.AtoiErrMem
set_option maxRecDepth 100000
set_option maxHeartbeats 8000000
set_option linter.unusedVariables false
namespace Go.Proofs.YtmgdjlkndbejkaaGreatDoor
open Go.Lib (hid)
section
open Go.RowKit
theorem conv_str14 (w:World) (s:ByteArray):∃ c w1,(convert 9 37 (.string s)).run Tryz.prog w=.ok (.slice (some ⟨w.heap.size,0,none⟩) s.size c) w1 ∧
   Rd w1 w1.heap.size (some ⟨w.heap.size,0,none⟩) s.size (byteCells s.data.toList)∧Below w.heap.size w w1:=by
 have hz:=Lib.bytesWorld_size w 5 s
 refine ⟨_,_,Lib.run_convert_string_bytes w _ _ 5 s Tryz.underlying9 Tryz.underlying37 Tryz.underlying5,⟨byteCells_length _,fun h=>⟨_,rfl,by rw[hz];exact Nat.lt_succ_self _,fun j u hu => ?_⟩⟩,
   ⟨rfl,rfl,rfl,by rw[hz];exact Nat.le_succ _,fun k hk=>Lib.bytesWorld_at_old w _ s k hk⟩⟩
 have hj:j<s.size:=by have:=(List.getElem?_eq_some_iff.1 hu).1;rw[byteCells_length] at this;exact this
 rw[add_none,Nat.zero_add,Lib.bytesWorld_cell w _ s j hj]
 unfold byteCells at hu
 rw[List.getElem?_map,List.getElem?_eq_getElem (show j<s.data.toList.length from hj)] at hu
 rw[← hu]
 simp[hj]
theorem rd_byte {w:World} {B b n:Nat} {l:List UInt8} (h:Rd w B (some ⟨b,0,none⟩) n (byteCells l)) {k:Nat} (hk:k<l.length):w.cell? ⟨b,k,none⟩=some (.int .u8 l[k].toNat):=by
 have hn:0<n:=by have:=h.1;rw[byteCells_length] at this;omega
 obtain ⟨ad,e,_,hc⟩:=h.2 hn
 obtain rfl:=Option.some.inj e
 have:=hc k (.int .u8 l[k].toNat) (by unfold byteCells;rw[List.getElem?_map,List.getElem?_eq_getElem hk];rfl)
 rw[add_none,Nat.zero_add] at this
 exact this
theorem part14 (s:ByteArray) (a b:Nat) (h:a+b≤s.size):(s.extract a (a+b)).data.toList=(s.data.toList.drop a).take b:=by
 rw[ByteArray.data_extract,Array.toList_extract,List.extract_eq_take_drop,Nat.add_sub_cancel_left]
theorem part14_size (s:ByteArray)(a b:Nat)(h:a+b≤s.size):(s.extract a (a+b)).size=b:=by rw[ByteArray.size_extract];omega
theorem valD_take (ds:List UInt8) (k:Nat) (h:k<ds.length):valD (ds.take (k+1)) 0=valD (ds.take k) 0*10+(ds[k].toNat-48):=by
 rw[List.take_succ_eq_append_getElem h,val_snoc]
theorem valD_pow (ds:List UInt8) (hd:∀ c∈ds,digB c=true):∀ k,k≤ds.length→valD (ds.take k) 0<10 ^ k
 | 0,_=>by show (0:Nat)<1;decide
 | k+1,h=>by
   have ih:=valD_pow ds hd k (by omega)
   have hc:=hd ds[k] (List.getElem_mem (by omega))
   unfold digB at hc
   have hc:=of_decide_eq_true hc
   rw[valD_take ds k (by omega),Nat.pow_succ]
   omega
theorem run_dig:∀ (l:List UInt8),∀ c∈l.take (runD l),digB c=true
 | [],c,h=>by simp at h
 | a :: t,c,h=>by
   unfold runD at h
   split at h
   ·rename_i hd
    rw[List.take_succ_cons] at h
    rcases List.mem_cons.1 h with rfl|h
    ·exact hd
    ·exact run_dig t c h
   ·simp at h
theorem digs_some {l:List UInt8} (h:l.head?=some 48):0<runD l:=by
 cases l with
 | nil=>cases h
 | cons a t =>
   obtain rfl:=Option.some.inj h
   unfold runD
   rw[if_pos (by decide)]
   omega
theorem nrQ_on {l:List UInt8} {m:Nat} (h:minB l=m):nrQ l=if (l.drop m).head?=some 48 then (if m=1 then none else some (0,1)) else intD m (l.drop m) (runD (l.drop m)):=by
 subst h
 rfl
def InEnd (l:List UInt8) (W:World) (e:Ending) (w':World):Prop :=
 (match nrQ l with
   | none=>e=.returned (.tuple #[.int .i64 0,.int .i64 0,.bool false])
   | some (v,n)=>e=.returned (.tuple #[.int .i64 v,.int .i64 n,.bool true]))∧Below W.heap.size W w'
theorem InEnd.no {l:List UInt8} {W w':World} (h:nrQ l=none) (hb:Below W.heap.size W w'):InEnd l W (.returned (.tuple #[.int .i64 0,.int .i64 0,.bool false])) w':=by
 unfold InEnd;rw[h];exact ⟨rfl,hb⟩
theorem InEnd.yes {l:List UInt8} {W w':World} {v v' k':Int} {n:Nat} (h:nrQ l=some (v,n)) (hv:v=v') (hk:(n:Int)=k') (hb:Below W.heap.size W w'):InEnd l W (.returned (.tuple #[.int .i64 v',.int .i64 k',.bool true])) w':=by
 unfold InEnd;rw[h,← hv,← hk];exact ⟨rfl,hb⟩
def RelIn (ds:List UInt8) (W:World) (vv vi:Value) (wr:World):Prop :=
 ∃ k:Nat,k≤ds.length∧vi=.int .i64 k∧vv=.int .i64 (valD (ds.take k) 0:Nat)∧W=wr
theorem rint_zero (s:ByteArray) (W:World) (hs:s.size≤1000000) (hm:minB s.data.toList=0) (h48:(s.data.toList.drop 0).head?=some 48) :
   Calls Tryz.prog 73 #[.string s] W (InEnd s.data.toList W):=by
 have g45:∀ h:0<s.size,((s[0].toNat:Int)==45)=false:=fun h=>byteI_ne (d:=45) (fun e=>by
   unfold minB at hm
   rw[head_zero s h,e] at hm
   simp at hm)
 have hint:=nrQ_on hm
 have hlm:0≤s.size:=by omega
 have htd:=tail13 s 0 hlm
 have hsz:=tail_size s 0 hlm
 have HDG:=hid (fun w=>digits_any s w hs)
 rw[show s.data.toList=s.data.toList.drop 0 from rfl] at HDG
 have hrl:=runD_le (s.data.toList.drop 0)
 rw[List.length_drop] at hrl
 have hrl:runD (s.data.toList.drop 0)≤s.size-0:=hrl
 rw[if_pos h48,if_neg (by decide)] at hint
 have hpos:=digs_some h48
 have g0:0<s.size:=by
   by_cases h:0<s.size
   ·exact h
   ·rw[List.drop_zero,head_none s h] at h48;cases h48
 have e0:s[0]=48:=by rw[List.drop_zero,head_zero s g0] at h48;exact Option.some.inj h48
 have g45:=g45 g0
 have g48:((s[0].toNat:Int)==48)=true:=by rw[e0];rfl
 have g0I:(0:Int)<s.size:=by omega
 obtain ⟨n,hn⟩:∃ n,n=1:=⟨_,rfl⟩
 obtain ⟨cc,w1,hr1,rd,hb1⟩:=conv_str14 W (s.extract 0 1)
 have hps:=part14_size s 0 1 (by omega)
 have hpl:=part14 s 0 1 (by omega)
 rw[Nat.zero_add] at hps hpl
 rw[hpl,hps] at rd
 rw[hps] at hr1
 have hds:(s.data.toList.drop 0).take 1=[48]:=by
   rw[List.drop_zero] at h48 ⊢
   cases hc:s.data.toList with
   | nil=>rw[hc] at h48;cases h48
   | cons a t=>rw[hc] at h48;obtain rfl:=Option.some.inj h48;rfl
 rw[hds] at rd
 have c0:w1.cell? ⟨W.heap.size,0,none⟩=some (.int .u8 48):=rd_byte rd (k:=0) (by decide)
 have HB1:=hid hb1
 have HI:=hid hint
 generalize hr:runD (s.data.toList.drop 0)=q at *
 have qI:(q:Int)>0:=by omega
 clear hps hpl hds rd hb1 hint h48 htd hsz hm hrl hr
 have k1:(0:Int)+1≤s.size:=by omega
 go_enter Tryz.func73,Tryz.ntmps73
 go_wp2_with (go_at_call 86;refine (HDG.out _).mono ?_;rintro e w' ⟨rfl,rfl⟩)
 refine wp_loop_rounds 2 ?_
 rw[rounds_succ];go_wp2
 rw[rounds_succ];go_wp2
 go_ret3
 exact InEnd.yes HI.out rfl rfl HB1.out
theorem rint_dig0 (s:ByteArray) (W:World) (hs:s.size≤1000000) (hm:minB s.data.toList=0) (h48:(s.data.toList.drop 0).head?≠some 48) :
   Calls Tryz.prog 73 #[.string s] W (InEnd s.data.toList W):=by
 have g45:∀ h:0<s.size,((s[0].toNat:Int)==45)=false:=fun h=>byteI_ne (d:=45) (fun e=>by
   unfold minB at hm
   rw[head_zero s h,e] at hm
   simp at hm)
 have hint:=nrQ_on hm
 have hlm:0≤s.size:=by omega
 have htd:=tail13 s 0 hlm
 have hsz:=tail_size s 0 hlm
 have HDG:=hid (fun w=>digits_any s w hs)
 rw[show s.data.toList=s.data.toList.drop 0 from rfl] at HDG
 have hrl:=runD_le (s.data.toList.drop 0)
 rw[List.length_drop] at hrl
 have hrl:runD (s.data.toList.drop 0)≤s.size-0:=hrl
 rw[if_neg h48] at hint
 obtain ⟨n,hn⟩:∃ n,runD (s.data.toList.drop 0)=n:=⟨_,rfl⟩
 rw[hn] at HDG hrl hint
 have mI:(0:Int)≤s.size:=by omega
 by_cases hn0:n=0
 ·subst hn0
  have HI:=hid (show nrQ s.data.toList=none by rw[hint];unfold intD;rw[if_pos (.inl rfl)])
  clear hint h48 htd hsz hm hrl hn
  by_cases g0:0<s.size
  ·have g45:=g45 g0
   have g0I:(0:Int)<s.size:=by omega
   go_enter Tryz.func73,Tryz.ntmps73
   go_wp2_with (go_at_call 86;refine (HDG.out _).mono ?_;rintro e w' ⟨rfl,rfl⟩)
   go_ret3
   exact InEnd.no HI.out (Below.refl _ _)
  ·have g0I:¬ (0:Int)<s.size:=by omega
   go_enter Tryz.func73,Tryz.ntmps73
   go_wp2_with (go_at_call 86;refine (HDG.out _).mono ?_;rintro e w' ⟨rfl,rfl⟩)
   go_ret3
   exact InEnd.no HI.out (Below.refl _ _)
 have g0:0<s.size:=by omega
 have g45:=g45 g0
 have g0I:(0:Int)<s.size:=by omega
 have hmI:0<s.size:=by omega
 have e48:s[0]≠48:=by
   intro e
   have hx:0<s.data.toList.length:=hmI
   rw[List.drop_eq_getElem_cons hx] at h48
   exact h48 (congrArg some e)
 have g48:((s[0].toNat:Int)==48)=false:=byteI_ne (d:=48) e48
 have nI0:(n:Int)>0:=by omega
 have nI1:((n:Int)==0)=false:=beq_eq_false_iff_ne.2 (by omega)
 clear h48 e48
 by_cases hn16:16<n
 ·have nI:(n:Int)>16:=by omega
  have HI:=hid (show nrQ s.data.toList=none by rw[hint];unfold intD;rw[if_pos (.inr hn16)])
  clear hint htd hsz hm hrl hn
  go_enter Tryz.func73,Tryz.ntmps73
  go_wp2_with (go_at_call 86;refine (HDG.out _).mono ?_;rintro e w' ⟨rfl,rfl⟩)
  go_ret3
  exact InEnd.no HI.out (Below.refl _ _)
 have nI:¬ (n:Int)>16:=by omega
 obtain ⟨cc,w1,hr1,rd,hb1⟩:=conv_str14 W (s.extract 0 (n))
 have hps:=part14_size s 0 n (by omega)
 have hpl:=part14 s 0 n (by omega)
 rw[Nat.zero_add] at hps hpl
 rw[hpl,hps] at rd
 rw[hps] at hr1
 have HD:=hid (by have:=run_dig (s.data.toList.drop 0);rw[hn] at this;exact this)
 have hdl:((s.data.toList.drop 0).take n).length=n:=by rw[List.length_take,List.length_drop];show min n (s.size-0)=n;omega
 have HV:=hid (valD_pow _ HD.out)
 have hint:nrQ s.data.toList=if 9007199254740991<valD ((s.data.toList.drop 0).take n) 0 then none else some (((valD ((s.data.toList.drop 0).take n) 0:Nat):Int),0+n):=by
   rw[hint]
   unfold intD
   rw[if_neg (by omega)]
   rw[if_neg (show ¬ (0:Nat)=1 by decide)]
 generalize (s.data.toList.drop 0).take n=ds at *
 have HNO:=hid (fun h:9007199254740991<valD ds 0=>hint.trans (if_pos h))
 have HYES:=hid (fun h:¬ 9007199254740991<valD ds 0=>hint.trans (if_neg h))
 have HB1:=hid hb1
 have RD:=hid rd
 have hvv:valD ds 0<10000000000000000:=by
   have:=HV.out ds.length (Nat.le_refl _)
   rw[List.take_length] at this
   have h16:(10:Nat) ^ ds.length≤10 ^ 16:=Nat.pow_le_pow_right (by decide) (by omega)
   omega
 have HVV:=hid hvv
 clear hint hps hpl rd hb1 htd hsz hm hvv
 have k1:(0:Int)+n≤s.size:=by omega
 go_enter Tryz.func73,Tryz.ntmps73
 go_wp2_with (go_at_call 86;refine (HDG.out _).mono ?_;rintro e w' ⟨rfl,rfl⟩)
 go_loopw [7,46] (fun vv vi wr=>RelIn ds w1 vv vi wr) (fun _ vi _=>ds.length-(intOf vi).toNat)
 case atStart=>exact ⟨0,Nat.zero_le _,rfl,rfl,rfl⟩
 case round =>
   obtain ⟨k,hk,rfl,rfl,rfl⟩:=hrel
   by_cases hlt:k<ds.length
   ·have hltI:(k:Int)<n:=by omega
    have c0:=rd_byte RD.out hlt
    have hp:=HV.out k hk
    have hst:=valD_take ds k hlt
    have hcd:=HD.out ds[k] (List.getElem_mem hlt)
    unfold digB at hcd
    have hcd:=of_decide_eq_true hcd
    have hb16:(10:Nat) ^ k≤10 ^ 15:=Nat.pow_le_pow_right (by decide) (by omega)
    have hvb:valD (ds.take k) 0<1000000000000000:=by omega
    generalize ds[k]=ck at *
    have HST:=hid hst
    clear hst hp hb16
    generalize valD (ds.take k) 0=v at *
    have u0:(0:Int)≤v∧(v:Int)<1000000000000000:=by omega
    have u1:(48:Int)≤ck.toNat∧(ck.toNat:Int)≤57:=by omega
    go_wp2
    go_roundw
    case rel=>exact ⟨k+1,hlt,by go_num,by rw[HST.out];exact congrArg (Value.int .i64) (by omega),rfl⟩
    case measure=>simp[intOf];omega
   ·have hltI:¬ (k:Int)<n:=by omega
    obtain rfl:k=ds.length:=by omega
    rw[List.take_length] at *
    have hvv:=HVV.out
    by_cases hbig:9007199254740991<valD ds 0
    ·have HN:=hid (HNO.out hbig)
     generalize valD ds 0=v at *
     have vI:(v:Int)>9007199254740991:=by omega
     go_wp2
     go_ret3
     exact InEnd.no HN.out HB1.out
    ·have HN:=hid (HYES.out hbig)
     generalize valD ds 0=v at *
     have vI:¬ (v:Int)>9007199254740991:=by omega
     have v0:(0:Int)≤v:=by omega
     go_wp2
     go_ret3
     exact InEnd.yes HN.out (by omega) (by omega) HB1.out
theorem rint_dig1 (s:ByteArray) (W:World) (hs:s.size≤1000000) (hm:minB s.data.toList=1) (h48:(s.data.toList.drop 1).head?≠some 48) :
   Calls Tryz.prog 73 #[.string s] W (InEnd s.data.toList W):=by
 have hhead:s.data.toList.head?=some 45:=by
   unfold minB at hm
   split at hm
   ·assumption
   ·cases hm
 have g0:0<s.size:=by
   by_cases h:0<s.size
   ·exact h
   ·rw[head_none s h] at hhead;cases hhead
 have e0:s[0]=45:=by rw[head_zero s g0] at hhead;exact Option.some.inj hhead
 have g0I:(0:Int)<s.size:=by omega
 have g45:((s[0].toNat:Int)==45)=true:=by rw[e0];rfl
 have m1I:(1:Int)≤s.size:=by omega
 clear hhead e0
 have hint:=nrQ_on hm
 have hlm:1≤s.size:=by omega
 have htd:=tail13 s 1 hlm
 have hsz:=tail_size s 1 hlm
 have HDG:=hid (fun w=>digits_any (s.extract 1 s.size) w (by omega))
 rw[htd] at HDG
 have hrl:=runD_le (s.data.toList.drop 1)
 rw[List.length_drop] at hrl
 have hrl:runD (s.data.toList.drop 1)≤s.size-1:=hrl
 rw[if_neg h48] at hint
 obtain ⟨n,hn⟩:∃ n,runD (s.data.toList.drop 1)=n:=⟨_,rfl⟩
 rw[hn] at HDG hrl hint
 have mI:(1:Int)≤s.size:=by omega
 by_cases hn0:n=0
 ·subst hn0
  have HI:=hid (show nrQ s.data.toList=none by rw[hint];unfold intD;rw[if_pos (.inl rfl)])
  clear hint h48 htd hsz hm hrl hn
  go_enter Tryz.func73,Tryz.ntmps73
  go_wp2_with (go_at_call 86;refine (HDG.out _).mono ?_;rintro e w' ⟨rfl,rfl⟩)
  go_ret3
  exact InEnd.no HI.out (Below.refl _ _)
 have hmI:1<s.size:=by omega
 have e48:s[1]≠48:=by
   intro e
   have hx:1<s.data.toList.length:=hmI
   rw[List.drop_eq_getElem_cons hx] at h48
   exact h48 (congrArg some e)
 have g48:((s[1].toNat:Int)==48)=false:=byteI_ne (d:=48) e48
 have nI0:(n:Int)>0:=by omega
 have nI1:((n:Int)==0)=false:=beq_eq_false_iff_ne.2 (by omega)
 clear h48 e48
 by_cases hn16:16<n
 ·have nI:(n:Int)>16:=by omega
  have HI:=hid (show nrQ s.data.toList=none by rw[hint];unfold intD;rw[if_pos (.inr hn16)])
  clear hint htd hsz hm hrl hn
  go_enter Tryz.func73,Tryz.ntmps73
  go_wp2_with (go_at_call 86;refine (HDG.out _).mono ?_;rintro e w' ⟨rfl,rfl⟩)
  go_ret3
  exact InEnd.no HI.out (Below.refl _ _)
 have nI:¬ (n:Int)>16:=by omega
 obtain ⟨cc,w1,hr1,rd,hb1⟩:=conv_str14 W (s.extract 1 (1+n))
 have hps:=part14_size s 1 n (by omega)
 have hpl:=part14 s 1 n (by omega)
 skip
 rw[hpl,hps] at rd
 rw[hps] at hr1
 have HD:=hid (by have:=run_dig (s.data.toList.drop 1);rw[hn] at this;exact this)
 have hdl:((s.data.toList.drop 1).take n).length=n:=by rw[List.length_take,List.length_drop];show min n (s.size-1)=n;omega
 have HV:=hid (valD_pow _ HD.out)
 have hint:nrQ s.data.toList=if 9007199254740991<valD ((s.data.toList.drop 1).take n) 0 then none else some (-((valD ((s.data.toList.drop 1).take n) 0:Nat):Int),1+n):=by
   rw[hint]
   unfold intD
   rw[if_neg (by omega)]
   rw[if_pos (show (1:Nat)=1 from rfl)]
 generalize (s.data.toList.drop 1).take n=ds at *
 have HNO:=hid (fun h:9007199254740991<valD ds 0=>hint.trans (if_pos h))
 have HYES:=hid (fun h:¬ 9007199254740991<valD ds 0=>hint.trans (if_neg h))
 have HB1:=hid hb1
 have RD:=hid rd
 have hvv:valD ds 0<10000000000000000:=by
   have:=HV.out ds.length (Nat.le_refl _)
   rw[List.take_length] at this
   have h16:(10:Nat) ^ ds.length≤10 ^ 16:=Nat.pow_le_pow_right (by decide) (by omega)
   omega
 have HVV:=hid hvv
 clear hint hps hpl rd hb1 htd hsz hm hvv
 have k1:(1:Int)+n≤s.size:=by omega
 go_enter Tryz.func73,Tryz.ntmps73
 go_wp2_with (go_at_call 86;refine (HDG.out _).mono ?_;rintro e w' ⟨rfl,rfl⟩)
 go_loopw [7,46] (fun vv vi wr=>RelIn ds w1 vv vi wr) (fun _ vi _=>ds.length-(intOf vi).toNat)
 case atStart=>exact ⟨0,Nat.zero_le _,rfl,rfl,rfl⟩
 case round =>
   obtain ⟨k,hk,rfl,rfl,rfl⟩:=hrel
   by_cases hlt:k<ds.length
   ·have hltI:(k:Int)<n:=by omega
    have c0:=rd_byte RD.out hlt
    have hp:=HV.out k hk
    have hst:=valD_take ds k hlt
    have hcd:=HD.out ds[k] (List.getElem_mem hlt)
    unfold digB at hcd
    have hcd:=of_decide_eq_true hcd
    have hb16:(10:Nat) ^ k≤10 ^ 15:=Nat.pow_le_pow_right (by decide) (by omega)
    have hvb:valD (ds.take k) 0<1000000000000000:=by omega
    generalize ds[k]=ck at *
    have HST:=hid hst
    clear hst hp hb16
    generalize valD (ds.take k) 0=v at *
    have u0:(0:Int)≤v∧(v:Int)<1000000000000000:=by omega
    have u1:(48:Int)≤ck.toNat∧(ck.toNat:Int)≤57:=by omega
    go_wp2
    go_roundw
    case rel=>exact ⟨k+1,hlt,by go_num,by rw[HST.out];exact congrArg (Value.int .i64) (by omega),rfl⟩
    case measure=>simp[intOf];omega
   ·have hltI:¬ (k:Int)<n:=by omega
    obtain rfl:k=ds.length:=by omega
    rw[List.take_length] at *
    have hvv:=HVV.out
    by_cases hbig:9007199254740991<valD ds 0
    ·have HN:=hid (HNO.out hbig)
     generalize valD ds 0=v at *
     have vI:(v:Int)>9007199254740991:=by omega
     go_wp2
     go_ret3
     exact InEnd.no HN.out HB1.out
    ·have HN:=hid (HYES.out hbig)
     generalize valD ds 0=v at *
     have vI:¬ (v:Int)>9007199254740991:=by omega
     have v0:(0:Int)≤v:=by omega
     go_wp2
     go_ret3
     exact InEnd.yes HN.out (by omega) (by omega) HB1.out
theorem rint_minus0 (s:ByteArray) (W:World) (hs:s.size≤1000000) (hm:minB s.data.toList=1) (h48:(s.data.toList.drop 1).head?=some 48) :
   Calls Tryz.prog 73 #[.string s] W (InEnd s.data.toList W):=by
 have hhead:s.data.toList.head?=some 45:=by
   unfold minB at hm
   split at hm
   ·assumption
   ·cases hm
 have g0:0<s.size:=by
   by_cases h:0<s.size
   ·exact h
   ·rw[head_none s h] at hhead;cases hhead
 have e0:s[0]=45:=by rw[head_zero s g0] at hhead;exact Option.some.inj hhead
 have g0I:(0:Int)<s.size:=by omega
 have g45:((s[0].toNat:Int)==45)=true:=by rw[e0];rfl
 have m1I:(1:Int)≤s.size:=by omega
 clear hhead e0
 have hint:=nrQ_on hm
 have hlm:1≤s.size:=by omega
 have htd:=tail13 s 1 hlm
 have hsz:=tail_size s 1 hlm
 have HDG:=hid (fun w=>digits_any (s.extract 1 s.size) w (by omega))
 rw[htd] at HDG
 have hrl:=runD_le (s.data.toList.drop 1)
 rw[List.length_drop] at hrl
 have hrl:runD (s.data.toList.drop 1)≤s.size-1:=hrl
 rw[if_pos h48,if_pos rfl] at hint
 have hpos:=digs_some h48
 have hmI:1<s.size:=by
   rw[show s.data.toList.length=s.size from rfl] at *
   omega
 have e48:s[1]=48:=by
   have hx:1<s.data.toList.length:=hmI
   rw[List.drop_eq_getElem_cons hx] at h48
   exact Option.some.inj h48
 have g48:((s[1].toNat:Int)==48)=true:=by rw[e48];rfl
 have HI:=hid hint
 generalize hr:runD (s.data.toList.drop 1)=q at *
 have qI:(q:Int)>0:=by omega
 clear hint h48 htd hsz hm hrl hr e48
 go_enter Tryz.func73,Tryz.ntmps73
 go_wp2_with (go_at_call 86;refine (HDG.out _).mono ?_;rintro e w' ⟨rfl,rfl⟩)
 go_ret3
 exact InEnd.no HI.out (Below.refl _ _)
theorem rint14_any (s:ByteArray) (W:World) (hs:s.size≤1000000):Calls Tryz.prog 73 #[.string s] W (InEnd s.data.toList W):=by
 have hm:=minB_le s.data.toList
 by_cases h0:minB s.data.toList=0
 ·by_cases h48:(s.data.toList.drop 0).head?=some 48
  ·exact rint_zero s W hs h0 h48
  ·exact rint_dig0 s W hs h0 h48
 ·have h1:minB s.data.toList=1:=by omega
  by_cases h48:(s.data.toList.drop 1).head?=some 48
  ·exact rint_minus0 s W hs h1 h48
  ·exact rint_dig1 s W hs h1 h48
end
section
open Go.RowKit
theorem hexB_is (c:UInt8):hexB c=if isHexI c.toNat=true then some (hexI c.toNat) else none:=by
 unfold hexB isHexI hexI
 by_cases h1:48≤c.toNat∧c.toNat≤57
 ·have h1':48≤(c.toNat:Int)∧(c.toNat:Int)≤57:=by omega
  simp[h1,h1']
 ·have h1':¬ (48≤(c.toNat:Int)∧(c.toNat:Int)≤57):=by omega
  rw[if_neg h1,if_neg h1']
  by_cases h2:97≤c.toNat∧c.toNat≤102
  ·have h2':97≤(c.toNat:Int)∧(c.toNat:Int)≤102:=by omega
   simp[h1',h2,h2']
  ·have h2':¬ (97≤(c.toNat:Int)∧(c.toNat:Int)≤102):=by omega
   rw[if_neg h2,if_neg h2']
   by_cases h3:65≤c.toNat∧c.toNat≤70
   ·have h3':65≤(c.toNat:Int)∧(c.toNat:Int)≤70:=by omega
    simp[h1',h2',h3,h3']
   ·have h3':¬ (65≤(c.toNat:Int)∧(c.toNat:Int)≤70):=by omega
    rw[if_neg h3]
    rw[decide_eq_false h1',decide_eq_false h2',decide_eq_false h3']
    rfl
theorem rhex_of (c:UInt8) (d:Int) (h:hexB c=some d) (w:World) :
   Calls Tryz.prog 112 #[.int .u8 c.toNat] w fun e w'=>e=.returned (.tuple #[.int .i64 d,.bool true])∧w=w':=by
 have hc:=UInt8.toNat_lt c
 have:=rhex_any c.toNat w (by omega) (by omega)
 rw[hexB_is] at h
 split at h
 ·rename_i h1
  rw[h1,Option.some.inj h] at this
  exact this
 ·cases h
theorem rhex_not (c:UInt8) (h:hexB c=none) (w:World) :
   Calls Tryz.prog 112 #[.int .u8 c.toNat] w fun e w'=>e=.returned (.tuple #[.int .i64 (hexI c.toNat),.bool false])∧w=w':=by
 have hc:=UInt8.toNat_lt c
 have:=rhex_any c.toNat w (by omega) (by omega)
 rw[hexB_is] at h
 split at h
 ·cases h
 ·rename_i h1
  rw[show isHexI c.toNat=false by simpa using h1] at this
  exact this
theorem hexG4_short:∀ (k:Nat) (l:List UInt8) (v:Int),l.length<k→hexG4 k l v=none
 | 0,l,v,h=>by omega
 | k+1,[],v,h=>rfl
 | k+1,c :: t,v,h=>by
   unfold hexG4
   cases hexB c with
   | none=>rfl
   | some d=>exact hexG4_short k t _ (by simp at h;omega)
theorem hexG4_in:∀ (k:Nat) (l:List UInt8) (v x b:Int),0≤v→v<b→hexG4 k l v=some x→0≤x∧x<b*16 ^ k
 | 0,l,v,x,b,h0,h1,h=>by
   obtain rfl:=Option.some.inj h
   simp
   exact ⟨h0,h1⟩
 | k+1,[],v,x,b,h0,h1,h=>by cases h
 | k + 1,c :: t,v,x,b,h0,h1,h=>by
   unfold hexG4 at h
   cases hc:hexB c with
   | none=>rw[hc] at h;cases h
   | some d =>
     rw[hc] at h
     obtain ⟨d0,d9⟩:=hexB_in hc
     have:=hexG4_in k t (v*16+d) x (b*16) (by omega) (by omega) h
     rw[Int.pow_succ,Int.mul_comm (16 ^ k) 16,← Int.mul_assoc]
     exact this
theorem hex4_in {l:List UInt8} {x:Int} (h:hex4 l=some x):0≤x∧x<65536:=by
 have:=hexG4_in 4 l 0 x 1 (by omega) (by omega) h
 have e:(1:Int)*16 ^ 4=65536:=by decide
 rw[e] at this
 exact this
def RelHx (s:ByteArray) (W:World) (vv vi:Value) (wr:World):Prop :=
 ∃ (k:Nat) (v:Int),k≤4∧vi=.int .i64 k∧vv=.int .i64 v∧0≤v∧v<65536∧(k≤3→v<4096)∧(k≤2→v<256)∧(k≤1→v<16)∧(k=0→v<1)∧hexG4 (4-k) (s.data.toList.drop k) v=hex4 s.data.toList∧W=wr
theorem rhex14_any (s:ByteArray) (W:World) (hs:s.size≤1000000) :
   Calls Tryz.prog 100 #[.string s] W fun e w'=>e=.returned (.int .i64 ((hex4 s.data.toList).getD (-1)))∧W=w':=by
 by_cases h4:s.size<4
 ·have h4I:(s.size:Int)<4:=by omega
  rw[show hex4 s.data.toList=none from hexG4_short 4 _ 0 h4]
  go_enter Tryz.func100,Tryz.ntmps100
  go_wp2
  go_ret
  exact ⟨rfl,rfl⟩
 have h4I:¬ (s.size:Int)<4:=by omega
 go_enter Tryz.func100,Tryz.ntmps100
 go_wp2
 go_loopw [3,4] (fun vv vi wr=>RelHx s W vv vi wr) (fun _ vi _=>4-(intOf vi).toNat)
 case atStart=>exact ⟨0,0,by omega,rfl,rfl,by omega,by omega,by omega,by omega,by omega,by omega,rfl,rfl⟩
 case round =>
   obtain ⟨k,v,hk,rfl,rfl,v0,v9,b3,b2,b1,b0,hr,rfl⟩:=hrel
   by_cases hlt:k<4
   ·have hltI:(k:Int)<4:=by omega
    have hks:k<s.size:=by omega
    have hx:k<s.data.toList.length:=hks
    obtain ⟨j,hj⟩:∃ j,4-k=j+1:=⟨3-k,by omega⟩
    rw[hj,List.drop_eq_getElem_cons hx] at hr
    have hr:(match hexB s[k] with|some d=>hexG4 j (s.data.toList.drop (k+1)) (v*16+d)|none=>none)=hex4 s.data.toList:=hr
    cases hd:hexB s[k] with
    | none =>
      have HD:=hid (fun w=>rhex_not s[k] hd w)
      rw[hd] at hr
      have HR:=hid hr
      clear hr hd
      go_wp2_with (go_at_call 112;refine (HD.out _).mono ?_;rintro e w' ⟨rfl,rfl⟩)
      go_ret
      exact ⟨ret_i (by rw[← HR.out];rfl),rfl⟩
    | some d =>
      have HD:=hid (fun w=>rhex_of s[k] d hd w)
      rw[hd] at hr
      obtain ⟨d0,d9⟩:=hexB_in hd
      have HR:=hid (show hexG4 j (s.data.toList.drop (k+1)) (v*16+d)=hex4 s.data.toList from hr)
      have hv:v<4096:=b3 (by omega)
      have HB:=hid (show (k+1≤3→v<256)∧(k+1≤2→v<16)∧(k+1≤1→v<1) from ⟨fun h=>b2 (by omega),fun h=>b1 (by omega),fun h=>b0 (by omega)⟩)
      clear hr hd b3 b2 b1 b0
      go_wp2_with (go_at_call 112;refine (HD.out _).mono ?_;rintro e w' ⟨rfl,rfl⟩)
      go_roundw
      case rel =>
        obtain ⟨c3,c2,c1⟩:=HB.out
        have ej:4-(k+1)=j:=by omega
        exact ⟨k+1,v*16+d,by omega,by go_num,rfl,by omega,by omega,(fun h=>by have:=c3 h;omega),(fun h=>by have:=c2 h;omega),(fun h=>by have:=c1 h;omega),(fun h=>by omega),by rw[ej];exact HR.out,rfl⟩
      case measure=>simp[intOf];omega
   ·have hltI:¬ (k:Int)<4:=by omega
    obtain rfl:k=4:=by omega
    have HR:=hid (show some v=hex4 s.data.toList from hr)
    clear hr
    go_wp2
    go_ret
    exact ⟨ret_i (by rw[← HR.out];rfl),rfl⟩
def fromE (m:UInt8):List UInt8:=[m,92,47,98,102,110,114,116]
def toE (m:UInt8):List UInt8:=[m,92,47,8,12,10,13,9]
theorem fromE_len (m:UInt8):(fromE m).length=8:=rfl
theorem toE_len (m:UInt8):(toE m).length=8:=rfl
theorem escQ_cons (m c:UInt8)(t:List UInt8):escQ m (c :: t)=if c=m then some ([m],1) else if letE c≠0 then some ([letE c],1) else if c≠117 then none else escU (c :: t) t:=rfl
theorem escQ_hit (m c:UInt8) (t:List UInt8) (k:Nat) (hk:k<8) (hno:∀ j,(hj:j<k)→(fromE m)[j]'(by rw[fromE_len];omega)≠c) (hit:(fromE m)[k]'(by rw[fromE_len];omega)=c):escQ m (c :: t)=some ([(toE m)[k]'(by rw[toE_len];omega)],1):=by
 rw[escQ_cons]
 have h:=hno
 match k,hk with
 | 0,_=>obtain rfl:m=c:=hit;rw[if_pos rfl];rfl
 | 1,_=>have h0:m≠c:=hno 0 (by omega);obtain rfl:92=c:=hit;rw[if_neg (fun e=>h0 e.symm),if_pos (by decide)];rfl
 | 2,_=>have h0:m≠c:=hno 0 (by omega);obtain rfl:47=c:=hit;rw[if_neg (fun e=>h0 e.symm),if_pos (by decide)];rfl
 | 3,_=>have h0:m≠c:=hno 0 (by omega);obtain rfl:98=c:=hit;rw[if_neg (fun e=>h0 e.symm),if_pos (by decide)];rfl
 | 4,_=>have h0:m≠c:=hno 0 (by omega);obtain rfl:102=c:=hit;rw[if_neg (fun e=>h0 e.symm),if_pos (by decide)];rfl
 | 5,_=>have h0:m≠c:=hno 0 (by omega);obtain rfl:110=c:=hit;rw[if_neg (fun e=>h0 e.symm),if_pos (by decide)];rfl
 | 6,_=>have h0:m≠c:=hno 0 (by omega);obtain rfl:114=c:=hit;rw[if_neg (fun e=>h0 e.symm),if_pos (by decide)];rfl
 | 7,_=>have h0:m≠c:=hno 0 (by omega);obtain rfl:116=c:=hit;rw[if_neg (fun e=>h0 e.symm),if_pos (by decide)];rfl
theorem escQ_miss (m c:UInt8) (t:List UInt8) (hno:∀ j,(hj:j<8)→(fromE m)[j]'(by rw[fromE_len];omega)≠c):escQ m (c :: t)=if c≠117 then none else escU (c :: t) t:=by
 rw[escQ_cons,if_neg (fun e=>hno 0 (by omega) e.symm)]
 have h1:c≠92:=fun e=>hno 1 (by omega) e.symm
 have h2:c≠47:=fun e=>hno 2 (by omega) e.symm
 have h3:c≠98:=fun e=>hno 3 (by omega) e.symm
 have h4:c≠102:=fun e=>hno 4 (by omega) e.symm
 have h5:c≠110:=fun e=>hno 5 (by omega) e.symm
 have h6:c≠114:=fun e=>hno 6 (by omega) e.symm
 have h7:c≠116:=fun e=>hno 7 (by omega) e.symm
 have:letE c=0:=by
   unfold letE
   rw[if_neg h1,if_neg h2,if_neg h3,if_neg h4,if_neg h5,if_neg h6,if_neg h7]
 rw[this,if_neg (by decide)]
end
section
open Go.RowKit
theorem ofB_len2 (m:Int):(ofB m).length=(ofI m).length:=by unfold ofB;rw[List.length_map]
theorem ofB_cells (m:Int) (h0:0≤m) (h1:m≤1114111):byteCells (ofB m)=(ofI m).map (Value.int .u8):=by
 unfold byteCells ofB
 rcases ofI_is (n:=m) with ⟨_,h⟩|⟨_,_,h⟩|⟨_,_,h⟩|⟨_,h⟩
 ·rw[h];simp<;>omega
 ·rw[h];simp<;>omega
 ·rw[h];simp<;>omega
 ·rw[h];simp<;>omega
theorem of_rd {w w':World} {b:Nat} {m:Int} (h0:0≤m) (h1:m≤1114111) (h:Own w' b 5 ((ofI m).map (Value.int .u8)).toArray):Rd w' w'.heap.size (some ⟨b,0,none⟩) (ofB m).length (byteCells (ofB m)):=by
 rw[ofB_cells m h0 h1,ofB_len2]
 exact (Rd.of_list h (by simp)).more h.inside
theorem ofB_is_len (m:Int)(h0:0≤m)(h1:m≤1114111):(ofB m).length=(ofI m).length:=by unfold ofB;rw[List.length_map]
def EsEnd (m:UInt8) (l:List UInt8) (W:World) (e:Ending) (w':World):Prop :=
 (match escQ m l with
   | none=>e=.returned (.tuple #[.slice none 0 0,.int .i64 0])
   | some (b,n) => ∃ A c,e=.returned (.tuple #[.slice A b.length c,.int .i64 n])∧Rd w' w'.heap.size A b.length (byteCells b))∧Below W.heap.size W w'
theorem EsEnd.no {m:UInt8} {l:List UInt8} {W w':World} (h:escQ m l=none) (hb:Below W.heap.size W w'):EsEnd m l W (.returned (.tuple #[.slice none 0 0,.int .i64 0])) w':=by
 unfold EsEnd;rw[h];exact ⟨rfl,hb⟩
theorem EsEnd.yes {m:UInt8} {l b:List UInt8} {n k c:Nat} {A:Option Addr} {W w':World} (h:escQ m l=some (b,n)) (hk:b.length=k) (hr:Rd w' w'.heap.size A b.length (byteCells b)) (hb:Below W.heap.size W w'):EsEnd m l W (.returned (.tuple #[.slice A k c,.int .i64 n])) w':=by
 unfold EsEnd;rw[h];subst hk;exact ⟨⟨A,c,rfl,hr⟩,hb⟩
noncomputable def esW (m:UInt8) (W:World):World:=(W.alloc (.cells (byteCells (fromE m)).toArray 5)).alloc (.cells (byteCells (toE m)).toArray 5)
theorem esW_eq (m:UInt8)(W:World):esW m W=(W.alloc (.cells #[.int .u8 m.toNat,.int .u8 92,.int .u8 47,.int .u8 98,.int .u8 102,.int .u8 110,.int .u8 114,.int .u8 116] 5)).alloc (.cells #[.int .u8 m.toNat,.int .u8 92,.int .u8 47,.int .u8 8,.int .u8 12,.int .u8 10,.int .u8 13,.int .u8 9] 5):=rfl
theorem esW_below (m:UInt8)(W:World):Below W.heap.size W (esW m W):=((Below.refl _ W).alloc (Nat.le_refl _) _).alloc (by simp) _
theorem esW_from (m:UInt8) (W:World) (k:Nat) (hk:k<8):(esW m W).cell? ⟨W.heap.size,k,none⟩=some (.int .u8 ((fromE m)[k]'(by rw[fromE_len];exact hk)).toNat):=by
 have o:=(Own.fresh W 5 (byteCells (fromE m)).toArray).over (.cells (byteCells (toE m)).toArray 5)
 have h:(esW m W).cell? ⟨W.heap.size,k,none⟩=(byteCells (fromE m)).toArray[k]?:=o.at k
 rw[h]
 unfold byteCells
 simp[List.getElem?_eq_getElem (show k<(fromE m).length by rw[fromE_len];exact hk)]
theorem esW_to (m:UInt8) (W:World) (k:Nat) (hk:k<8):(esW m W).cell? ⟨W.heap.size+1,k,none⟩=some (.int .u8 ((toE m)[k]'(by rw[toE_len];exact hk)).toNat):=by
 have o:=Own.fresh (W.alloc (.cells (byteCells (fromE m)).toArray 5)) 5 (byteCells (toE m)).toArray
 have e:(W.alloc (.cells (byteCells (fromE m)).toArray 5)).heap.size=W.heap.size+1:=by simp
 rw[e] at o
 have h:(esW m W).cell? ⟨W.heap.size+1,k,none⟩=(byteCells (toE m)).toArray[k]?:=o.at k
 rw[h]
 unfold byteCells
 simp[List.getElem?_eq_getElem (show k<(toE m).length by rw[toE_len];exact hk)]
def RelEs14 (m c:UInt8) (W:World) (vi:Value) (wr:World):Prop :=
 ∃ k:Nat,k≤8∧vi=.int .i64 k∧(∀ j,(hj:j<k)→(hj8:j<8)→(fromE m)[j]'(by rw[fromE_len];exact hj8)≠c)∧wr=esW m W
theorem rof_any (v:Int) (h0:0≤v) (h9:v≤1114111) (hs:v<55296∨57343<v) (w:World) :
   Calls Tryz.prog 101 #[.int .i64 v] w fun e w' => ∃ A c,e=.returned (.slice A (ofB v).length c)∧Rd w' w'.heap.size A (ofB v).length (byteCells (ofB v))∧Below w.heap.size w w':=by
 have hf:fixI v=v:=by
   unfold fixI hasI
   rw[if_pos]
   simp
   omega
 refine (of_core v v w hf).mono ?_
 rintro e w' ⟨rfl,ho,hb⟩
 exact ⟨_,_,by rw[ofB_is_len v h0 h9],of_rd (w:=w') h0 h9 ho,hb⟩
theorem rescape14_any (s:ByteArray) (m:UInt8) (W:World) (hs:s.size≤1000000) :
   Calls Tryz.prog 85 #[.string s,.int .u8 m.toNat] W (EsEnd m s.data.toList W):=by
 by_cases h0:s.size=0
 ·have h0I:((s.size:Int)==0)=true:=by rw[h0];rfl
  have HN:=hid (show escQ m s.data.toList=none by rw[show s.data.toList=[] from List.eq_nil_of_length_eq_zero h0];rfl)
  clear h0
  go_enter Tryz.func85,Tryz.ntmps85
  go_wp2
  go_ret2
  exact EsEnd.no HN.out (Below.refl _ _)
 have h0I:((s.size:Int)==0)=false:=beq_eq_false_iff_ne.2 (by omega)
 have g0:0<s.size:=by omega
 have hcons:s.data.toList=s[0] :: s.data.toList.drop 1:=by
   have hx:0<s.data.toList.length:=g0
   have:=List.drop_eq_getElem_cons hx
   rw[List.drop_zero] at this
   exact this
 have HC:=hid hcons
 obtain ⟨c,hc⟩:∃ c,s[0]=c:=⟨_,rfl⟩
 rw[hc] at HC
 clear hcons
 go_enter Tryz.func85,Tryz.ntmps85
 go_wp2
 rw[← esW_eq]
 go_loopw [21] (fun vi wr=>RelEs14 m c W vi wr) (fun vi _=>8-(intOf vi).toNat)
 case atStart=>exact ⟨0,by omega,rfl,fun j hj=>by omega,rfl⟩
 case round =>
   obtain ⟨k,hk,rfl,hno,rfl⟩:=hrel
   by_cases hlt:k<8
   ·have hltI:(k:Int)<8:=by omega
    have cf:=esW_from m W k hlt
    have ct:=esW_to m W k hlt
    have HBW:=hid (esW_below m W)
    obtain ⟨fk,hfk⟩:∃ fk,(fromE m)[k]'(by rw[fromE_len];exact hlt)=fk:=⟨_,rfl⟩
    rw[hfk] at cf
    by_cases hit:fk=c
    ·have hq:=escQ_hit m c (s.data.toList.drop 1) k hlt (fun j hj=>hno j hj (by omega)) (hfk.trans hit)
     rw[← HC.out] at hq
     have HQ:=hid hq
     obtain ⟨tk,htk⟩:∃ tk,(toE m)[k]'(by rw[toE_len];exact hlt)=tk:=⟨_,rfl⟩
     rw[htk] at ct HQ
     have hg:((c.toNat:Int)==fk.toNat)=true:=byteI_eq hit.symm
     have HR:=hid (fun w=>(lit_rd w #[.int .u8 tk.toNat] [tk] rfl))
     clear hq hno hfk htk
     generalize esW m W=wr at *
     go_wp2
     go_ret2
     exact EsEnd.yes HQ.out rfl ((HR.out _).more (by simp)) (HBW.out.alloc HBW.out.size _)
    ·have hg:((c.toNat:Int)==fk.toNat)=false:=byteI_ne (fun e=>hit e.symm)
     have HNO:=hid (show ∀ j,(hj:j<k+1)→(hj8:j<8)→(fromE m)[j]'(by rw[fromE_len];exact hj8)≠c from fun j hj hj8=>by
       rcases Nat.lt_or_ge j k with h|h
       ·exact hno j h hj8
       ·obtain rfl:j=k:=by omega
        rw[hfk];exact hit)
     clear hno hfk ct
     generalize hwe:esW m W=we at *
     go_wp2
     go_roundw
     case rel=>exact ⟨k+1,by omega,by go_num,HNO.out,hwe.symm⟩
     case measure=>simp[intOf];omega
   ·have hltI : ¬ (k:Int)<8:=by omega
    have hq:=escQ_miss m c (s.data.toList.drop 1) (fun j hj=>hno j (by omega) hj)
    rw[← HC.out] at hq
    have HBW:=hid (esW_below m W)
    clear hno
    generalize esW m W=wr at *
    by_cases h117:c=117
    ·rw [if_neg (fun h=>h h117)] at hq
     have g117:((c.toNat:Int) != 117)=false:=by rw[h117];rfl
     have ht1:=tail13 s 1 (by omega)
     have hs1:=tail_size s 1 (by omega)
     have HX:=hid (fun w=>rhex14_any (s.extract 1 s.size) w (by omega))
     rw[ht1] at HX
     have g1:(1:Int)≤s.size:=by omega
     unfold escU at hq
     cases hx:hex4 (s.data.toList.drop 1) with
     | none =>
       rw[hx] at HX hq
       have HQ:=hid hq
       have HX:=hid (show ∀ w,Calls Tryz.prog 100 #[.string (s.extract 1 s.size)] w fun e w'=>e=.returned (.int .i64 (-1))∧w=w' from HX.out)
       clear hq hx ht1 hs1
       go_wp2_with (go_at_call 100;refine (HX.out _).mono ?_;rintro e w' ⟨rfl,rfl⟩)
       go_ret2
       exact EsEnd.no HQ.out HBW.out
     | some v =>
       obtain ⟨v0,v9⟩:=hex4_in hx
       rw[hx] at HX hq
       have hq:escQ m s.data.toList=if 56320≤v∧v≤57343 then none else if v<55296∨57343<v then some (ofB v,5) else escP v s.data.toList:=by rw[HC.out] at hq ⊢;exact hq
       have HX:=hid (show ∀ w,Calls Tryz.prog 100 #[.string (s.extract 1 s.size)] w fun e w'=>e=.returned (.int .i64 v)∧w=w' from HX.out)
       clear hx ht1 hs1
       by_cases hlow:56320≤v∧v≤57343
       ·rw[if_pos hlow] at hq
        have HQ:=hid hq
        obtain ⟨l0,l9⟩:=hlow
        clear hq
        go_wp2_with (go_at_call 100;refine (HX.out _).mono ?_;rintro e w' ⟨rfl,rfl⟩)
        go_ret2
        exact EsEnd.no HQ.out HBW.out
       rw[if_neg hlow] at hq
       by_cases hone:v<55296∨57343<v
       ·rw [if_pos hone] at hq
        have HQ:=hid hq
        have HO:=hid (fun w=>rof_any v v0 (by omega) hone w)
        clear hq hlow
        rcases hone with hone|hone
        all_goals
          go_wp2_with (first
            | (go_at_call 100;refine (HX.out _).mono ?_;rintro e w' ⟨rfl,rfl⟩)
            | (go_at_call 101;refine (HO.out _).mono ?_;rintro e w4 ⟨A4,c4,rfl,r4,hb4⟩))
          go_ret2
          exact EsEnd.yes HQ.out rfl r4 (HBW.out.trans (hb4.mono HBW.out.size))
       rw[if_neg hone] at hq
       have v1:55296≤v:=by omega
       have v2:v<56320:=by omega
       clear hlow hone
       unfold escP at hq
       by_cases h11:11≤s.size
       rotate_left
       ·have h11I:(s.size:Int)<11:=by omega
        have hq:escQ m s.data.toList=none:=by
          rw[hq]
          split
          ·have:hex4 (s.data.toList.drop 7)=none:=hexG4_short 4 _ 0 (by rw[List.length_drop];show s.size-7<4;omega)
           rw[this]
          ·rfl
        have HQ:=hid hq
        clear hq
        go_wp2_with (go_at_call 100;refine (HX.out _).mono ?_;rintro e w' ⟨rfl,rfl⟩)
        go_ret2
        exact EsEnd.no HQ.out HBW.out
       have h11I:¬ (s.size:Int)<11:=by omega
       have e5:s.data.toList[5]?=some s[5]:=List.getElem?_eq_getElem (show 5<s.data.toList.length by show 5<s.size;omega)
       have e6:s.data.toList[6]?=some s[6]:=List.getElem?_eq_getElem (show 6<s.data.toList.length by show 6<s.size;omega)
       rw[e5,e6] at hq
       have k5:5<s.size:=by omega
       have k6:6<s.size:=by omega
       clear e5 e6
       by_cases h5:s[5]=92
       rotate_left
       ·rw [if_neg (fun h=>h5 (Option.some.inj h.1))] at hq
        have g5:((s[5].toNat:Int) != 92)=true:=by
          rw[bne_iff_ne];intro e;exact h5 (UInt8.toNat_inj.1 (by show s[5].toNat=92;omega))
        have HQ:=hid hq
        clear hq h5
        go_wp2_with (go_at_call 100;refine (HX.out _).mono ?_;rintro e w' ⟨rfl,rfl⟩)
        go_ret2
        exact EsEnd.no HQ.out HBW.out
       have g5:((s[5].toNat:Int) != 92)=false:=by rw[h5];rfl
       by_cases h6:s[6]=117
       rotate_left
       ·rw [if_neg (fun h=>h6 (Option.some.inj h.2))] at hq
        have g6:((s[6].toNat:Int) != 117)=true:=by
          rw[bne_iff_ne];intro e;exact h6 (UInt8.toNat_inj.1 (by show s[6].toNat=117;omega))
        have HQ:=hid hq
        clear hq h5 h6
        go_wp2_with (go_at_call 100;refine (HX.out _).mono ?_;rintro e w' ⟨rfl,rfl⟩)
        go_ret2
        exact EsEnd.no HQ.out HBW.out
       have g6:((s[6].toNat:Int) != 117)=false:=by rw[h6];rfl
       rw[if_pos ⟨congrArg some h5,congrArg some h6⟩] at hq
       have ht7:=tail13 s 7 (by omega)
       have hs7:=tail_size s 7 (by omega)
       have HY:=hid (fun w=>rhex14_any (s.extract 7 s.size) w (by omega))
       rw[ht7] at HY
       have g7:(7:Int)≤s.size:=by omega
       have tk:True:=trivial
       clear h5 h6
       cases hy:hex4 (s.data.toList.drop 7) with
       | none =>
         rw[hy] at HY hq
         have HQ:=hid hq
         have HY:=hid (show ∀ w,Calls Tryz.prog 100 #[.string (s.extract 7 s.size)] w fun e w'=>e=.returned (.int .i64 (-1))∧w=w' from HY.out)
         clear hq hy ht7 hs7
         go_wp2_with (first
           | (go_at_call 100;clear tk;refine (HX.out _).mono ?_;rintro e w' ⟨rfl,rfl⟩)
           | (go_at_call 100;refine (HY.out _).mono ?_;rintro e w' ⟨rfl,rfl⟩))
         go_ret2
         exact EsEnd.no HQ.out HBW.out
       | some u =>
         obtain ⟨u0,u9⟩:=hex4_in hy
         rw[hy] at HY hq
         have hq:escQ m s.data.toList=if u<56320∨57343<u then none else some (ofB (65536+(v-55296)*1024+u-56320),11):=hq
         have HY:=hid (show ∀ w,Calls Tryz.prog 100 #[.string (s.extract 7 s.size)] w fun e w'=>e=.returned (.int .i64 u)∧w=w' from HY.out)
         clear hy ht7 hs7
         by_cases hu:u<56320∨57343<u
         ·rw [if_pos hu] at hq
          have HQ:=hid hq
          clear hq
          rcases hu with hu|hu
          all_goals
            go_wp2_with (first
              | (go_at_call 100;clear tk;refine (HX.out _).mono ?_;rintro e w' ⟨rfl,rfl⟩)
              | (go_at_call 100;refine (HY.out _).mono ?_;rintro e w' ⟨rfl,rfl⟩))
            go_ret2
            exact EsEnd.no HQ.out HBW.out
         ·rw [if_neg hu] at hq
          have u1:56320≤u:=by omega
          have u2:u≤57343:=by omega
          have HO:=hid (fun w=>rof_any (65536+(v-55296)*1024+u-56320) (by omega) (by omega) (.inr (by omega)) w)
          have HQ:=hid hq
          clear hq hu
          go_wp2_with (first
            | (go_at_call 100;clear tk;refine (HX.out _).mono ?_;rintro e w' ⟨rfl,rfl⟩)
            | (go_at_call 100;refine (HY.out _).mono ?_;rintro e w' ⟨rfl,rfl⟩)
            | (go_at_call 101;refine (HO.out _).mono ?_;rintro e w4 ⟨A4,c4,rfl,r4,hb4⟩))
          go_ret2
          exact EsEnd.yes HQ.out rfl r4 (HBW.out.trans (hb4.mono HBW.out.size))
    ·rw [if_pos h117] at hq
     have g117:((c.toNat:Int) != 117)=true:=by
       rw[bne_iff_ne];intro e;exact h117 (UInt8.toNat_inj.1 (by show c.toNat=117;omega))
     have HQ:=hid hq
     clear hq h117
     go_wp2
     go_ret2
     exact EsEnd.no HQ.out HBW.out
end
end Go.Proofs.YtmgdjlkndbejkaaGreatDoor
