/- Lemmas. -/
import Derived.Test.YtnokhgfifbkflaaGreatJ08
import Derived.Lib.RuneBytes
set_option maxRecDepth 100000
set_option maxHeartbeats 8000000
set_option linter.unusedVariables false
namespace Go.Proofs.YtnokhgfifbkflaaGreat
section
open Go.RowKit
theorem ofB_one {m:Int} {a:UInt8} (h:m<128) (e:m=a.toNat):ofB m=[a]:=by
 unfold ofB
 rcases ofI_is (n:=m) with ⟨_,h1⟩|⟨_,_,h1⟩|⟨_,_,h1⟩|⟨_,h1⟩<;>first|(exfalso;omega)|(rw[h1];simp[e])
theorem ofB_two {m:Int} {a b:UInt8} (h:128≤m) (h':m<2048) (ea:192+m/64=a.toNat) (eb:128+m%64=b.toNat):ofB m=[a,b]:=by
 unfold ofB
 rcases ofI_is (n:=m) with ⟨_,h1⟩|⟨_,_,h1⟩|⟨_,_,h1⟩|⟨_,h1⟩<;>first|(exfalso;omega)|(rw[h1];simp[ea,eb])
theorem ofB_three {m:Int} {a b c:UInt8} (h:2048≤m) (h':m<65536) (ea:224+m/4096=a.toNat) (eb:128+m/64%64=b.toNat) (ec:128+m%64=c.toNat):ofB m=[a,b,c]:=by
 unfold ofB
 rcases ofI_is (n:=m) with ⟨_,h1⟩|⟨_,_,h1⟩|⟨_,_,h1⟩|⟨_,h1⟩<;>first|(exfalso;omega)|(rw[h1];simp[ea,eb,ec])
theorem ofB_le4 {m:Int} {a b c d:UInt8} (h:65536≤m) (ea:240+m/262144=a.toNat) (eb:128+m/4096%64=b.toNat) (ec:128+m/64%64=c.toNat) (ed:128+m%64=d.toNat):ofB m=[a,b,c,d]:=by
 unfold ofB
 rcases ofI_is (n:=m) with ⟨_,h1⟩|⟨_,_,h1⟩|⟨_,_,h1⟩|⟨_,h1⟩<;>first|(exfalso;omega)|(rw[h1];simp[ea,eb,ec,ed])
def Sgn (v:Int):Prop:=0≤v∧v≤1114111∧(v<55296∨57343<v)
theorem okU_bdn {sg c:Int}(h:okU sg 1 c=true):128≤c∧c≤191:=okU_bd (by decide) h
theorem sign_end {p:List UInt8} {sg lf:Int} {c:UInt8} (h:InvL p sg lf) (hk:okU sg lf c.toNat=true) (hl:lfU lf c.toNat=0) :
   ofB (sgU sg lf c.toNat)=p++[c]∧Sgn (sgU sg lf c.toNat):=by
 have h256:=UInt8.toNat_lt c
 match p,h with
 | [], h =>
   have h:lf=0:=h
   subst h
   have hc:(c.toNat:Int)<128:=by
     by_cases h:(c.toNat:Int)<128
     ·exact h
     ·exfalso
      revert hl
      unfold lfU
      rw[if_pos rfl,if_neg h]
      by_cases h2:(c.toNat:Int)<224
      ·rw[if_pos h2];omega
      ·rw[if_neg h2]
       by_cases h3:(c.toNat:Int)<240
       ·rw[if_pos h3];omega
       ·rw[if_neg h3];omega
   have e:sgU sg 0 c.toNat=c.toNat:=by unfold sgU;rw[if_pos rfl,if_pos hc]
   rw[e]
   exact ⟨ofB_one hc rfl,by unfold Sgn;omega⟩
 | [a],h =>
   have h:(194≤a.toNat∧a.toNat≤223∧lf=1∧sg=a.toNat-192)∨(224≤a.toNat∧a.toNat≤239∧lf=2∧sg=a.toNat-224)∨(240≤a.toNat∧a.toNat≤244∧lf=3∧sg=a.toNat-240):=h
   rcases h with ⟨h1,h2,rfl,rfl⟩|⟨h1,h2,rfl,rfl⟩|⟨h1,h2,rfl,rfl⟩
   ·have:=okU_bdn hk
    have e:sgU ((a.toNat:Int)-192) 1 c.toNat=((a.toNat:Int)-192)*64+(c.toNat-128):=rfl
    rw[e]
    exact ⟨ofB_two (by omega) (by omega) (by omega) (by omega),by unfold Sgn;omega⟩
   ·exact absurd hl (by simp[lfU])
   ·exact absurd hl (by simp[lfU])
 | [a, b],h =>
   have h:128≤b.toNat∧b.toNat≤191∧((224≤a.toNat∧a.toNat≤239∧lf=1∧sg=(a.toNat-224)*64+b.toNat-128∧32≤sg∧(sg<864∨896≤sg))∨(240≤a.toNat∧a.toNat≤244∧lf=2∧sg=(a.toNat-240)*64+b.toNat-128∧16≤sg∧sg≤271)):=h
   obtain ⟨hb1,hb2,⟨h1,h2,rfl,e,h3,h4⟩|⟨h1,h2,rfl,e,h3,h4⟩⟩:=h
   ·have:=okU_bdn hk
    have e1:sgU sg 1 c.toNat=sg*64+(c.toNat-128):=rfl
    rw[e1]
    exact ⟨ofB_three (by omega) (by omega) (by omega) (by omega) (by omega),by unfold Sgn;omega⟩
   ·exact absurd hl (by simp[lfU])
 | [a,b,d],h =>
   have h:128≤b.toNat∧b.toNat≤191∧128≤d.toNat∧d.toNat≤191∧240≤a.toNat∧a.toNat≤244∧lf=1∧sg=((a.toNat-240)*64+b.toNat-128)*64+d.toNat-128∧1024≤sg∧sg≤17407:=h
   obtain ⟨hb1,hb2,hd1,hd2,h1,h2,rfl,e,h3,h4⟩:=h
   have:=okU_bdn hk
   have e1:sgU sg 1 c.toNat=sg*64+(c.toNat-128):=rfl
   rw[e1]
   exact ⟨ofB_le4 (by omega) (by omega) (by omega) (by omega) (by omega),by unfold Sgn;omega⟩
 | _ :: _ :: _ :: _ :: _,h=>exact absurd h (by simp[InvL])
theorem ofNat_int (k:Nat)(x:Int)(h:x=k):UInt8.ofNat x.toNat=UInt8.ofNat k:=by rw[h];rfl
theorem enc_ofB {v:Int} (h:Sgn v):(Utf8.encode v).data.toList=ofB v:=by
 obtain ⟨h0,h1,h2⟩:=h
 have hv:Utf8.valid v=true:=by
   unfold Utf8.valid
   rw[Bool.or_eq_true,Bool.and_eq_true,Bool.and_eq_true]
   simp only [decide_eq_true_eq]
   omega
 have hn:(v.toNat:Int)=v:=Int.toNat_of_nonneg h0
 unfold Utf8.encode
 simp only [hv,if_true]
 unfold ofB
 generalize v.toNat=n at *
 subst hn
 rcases ofI_is (n:=(n:Int)) with ⟨_,e⟩|⟨_,_,e⟩|⟨_,_,e⟩|⟨_,e⟩
 ·rw[if_pos (by omega),e];simp
 ·rw[if_neg (by omega),if_pos (by omega),e]
  show [UInt8.ofNat (192+n/64),UInt8.ofNat (128+n%64)]=[UInt8.ofNat (192+(n:Int)/64).toNat,UInt8.ofNat (128+(n:Int)%64).toNat]
  rw[ofNat_int (192+n/64) _ (by omega),ofNat_int (128+n%64) _ (by omega)]
 ·rw[if_neg (by omega),if_neg (by omega),if_pos (by omega),e]
  show [UInt8.ofNat (224+n/4096),UInt8.ofNat (128+n/64%64),UInt8.ofNat (128+n%64)]=[UInt8.ofNat (224+(n:Int)/4096).toNat,UInt8.ofNat (128+(n:Int)/64%64).toNat,UInt8.ofNat (128+(n:Int)%64).toNat]
  rw[ofNat_int (224+n/4096) _ (by omega),ofNat_int (128+n/64%64) _ (by omega),ofNat_int (128+n%64) _ (by omega)]
 ·rw[if_neg (by omega),if_neg (by omega),if_neg (by omega),e]
  show [UInt8.ofNat (240+n/262144),UInt8.ofNat (128+n/4096%64),UInt8.ofNat (128+n/64%64),UInt8.ofNat (128+n%64)]=[UInt8.ofNat (240+(n:Int)/262144).toNat,UInt8.ofNat (128+(n:Int)/4096%64).toNat,UInt8.ofNat (128+(n:Int)/64%64).toNat,UInt8.ofNat (128+(n:Int)%64).toNat]
  rw[ofNat_int (240+n/262144) _ (by omega),ofNat_int (128+n/4096%64) _ (by omega),ofNat_int (128+n/64%64) _ (by omega),ofNat_int (128+n%64) _ (by omega)]
def encs (vs:List Int):List UInt8:=vs.flatMap ofB
theorem encs_snoc (vs:List Int)(v:Int):encs (vs++[v])=encs vs++ofB v:=by simp[encs]
theorem ofB_pos (v:Int):1≤(ofB v).length:=by
 unfold ofB ofI
 (repeat' split)<;>simp
theorem encs_len (vs:List Int):vs.length≤(encs vs).length∧(encs vs).length≤4*vs.length:=by
 induction vs with
 | nil=>simp[encs]
 | cons v t ih =>
   have h1:=ofB_pos v
   have h2:=ofB_len v
   have e:encs (v :: t)=ofB v++encs t:=by simp[encs]
   rw[e]
   simp
   omega
theorem runes_fold (vs:List Int) (h:∀ v∈vs,Sgn v):∀ r:ByteArray,(vs.foldl (fun r n=>r++Utf8.encode n) r).data.toList=r.data.toList++encs vs:=by
 induction vs with
 | nil=>intro r;simp[encs]
 | cons v t ih =>
   intro r
   rw[List.foldl_cons,ih (fun x hx=>h x (by simp[hx]))]
   have e:encs (v :: t)=ofB v++encs t:=by simp[encs]
   rw[e,ByteArray.data_append,Array.toList_append,enc_ofB (h v (by simp)),List.append_assoc]
theorem runesBytes_encs (vs:List Int) (h:∀ v∈vs,Sgn v):runesBytes vs=⟨(encs vs).toArray⟩:=by
 have:=runes_fold vs h ByteArray.empty
 have e:∀ a b:ByteArray,a.data.toList=b.data.toList→a=b:=fun a b h=>by
   cases a with|mk x=>cases b with|mk y=>exact congrArg ByteArray.mk (Array.toList_inj.1 h)
 apply e
 unfold runesBytes
 rw[this]
 simp
-- the first sign of a text, by its bytes
end
section
open Go.RowKit
structure Touch (F:Nat→Prop) (w w':World):Prop where
 os:w'.os=w.os
 tape:w'.tape=w.tape
 output:w'.output=w.output
 size:w.heap.size≤w'.heap.size
 block:∀ k,k<w.heap.size→¬ F k→w'.heap[k]?=w.heap[k]?
section
variable {F G:Nat→Prop} {w w' w'':World}
theorem Touch.refl (F:Nat→Prop)(w:World):Touch F w w:=⟨rfl,rfl,rfl,Nat.le_refl _,fun _ _ _=>rfl⟩
theorem Touch.trans (h:Touch F w w') (g:Touch G w' w'') (hs:∀ k,k<w.heap.size→G k→F k):Touch F w w'' :=
 ⟨g.os.trans h.os,g.tape.trans h.tape,g.output.trans h.output,Nat.le_trans h.size g.size,
  fun k hk hn=>(g.block k (Nat.lt_of_lt_of_le hk h.size) (fun e=>hn (hs k hk e))).trans (h.block k hk hn)⟩
theorem Touch.of_below {B:Nat} (h:Below B w w') (hs:∀ k,k<w.heap.size→B≤k→F k):Touch F w w' :=
 ⟨h.os,h.tape,h.output,h.size,fun k hk hn=>h.block k (by
   by_cases hb:k<B
   ·exact hb
   ·exact absurd (hs k hk (by omega)) hn)⟩
theorem Touch.of_new (h:Below w.heap.size w w'):Touch F w w':=Touch.of_below h (fun k hk hB=>absurd hB (by omega))
theorem Touch.of_turned {b:Nat} (h:Turned b w w') (hb:F b):Touch F w w' :=
 ⟨h.1,h.2.1,h.2.2.1,h.2.2.2.1,fun k hk hn=>h.2.2.2.2 k hk (fun e=>hn (e▸hb))⟩
theorem Touch.alloc (h:Touch F w w') (o:Obj):Touch F w (w'.alloc o) :=
 h.trans (Touch.of_new (F:=F) ((Below.refl _ _).alloc (Nat.le_refl _) o)) (fun _ _ h=>h)
theorem Touch.setCell (h:Touch F w w') {p:Addr} (hp:F p.block∨w.heap.size≤p.block) (u:Value):Touch F w (w'.setCell p u) :=
 ⟨h.os,h.tape,h.output,by have:=h.size;simp[World.setCell];omega,fun k hk hn=>(Below.heap_setCell w' p u k (fun e=>by
   rcases hp with hp|hp
   ·exact hn (e▸hp)
   ·omega)).trans (h.block k hk hn)⟩
theorem Touch.grown {row:Option Nat} (h:Touch F w w') (hg:w'.grownBy w'' row) (hr:∀ k,row=some k→F k∨w.heap.size≤k):Touch F w w'' :=
 ⟨hg.os.trans h.os,hg.tape.trans h.tape,hg.output.trans h.output,Nat.le_trans h.size hg.size,fun k hk hn=>(hg.block k (Nat.lt_of_lt_of_le hk h.size) (fun e=>by
   rcases hr k e.symm with hh|hh
   ·exact hn hh
   ·omega)).trans (h.block k hk hn)⟩
theorem Touch.own {b:Nat}{t:TypeId}{cs:Array Value}(h:Touch F w w')(ho:Own w b t cs)(hn:¬ F b):Own w' b t cs:=(h.block b ho.inside hn).trans ho
variable {A:Option Addr} {n:Nat} {xs:List Value}
end
end
end Go.Proofs.YtnokhgfifbkflaaGreat
