/- Lemmas. -/
import Derived.Test.YtmgdjlkndbejkaaGreatDoorJ29
import Derived.Test.YtmgdjlkndbejkaaGreatDoorJ24
set_option maxRecDepth 100000
set_option maxHeartbeats 8000000
set_option linter.unusedVariables false
set_option linter.unusedSimpArgs false
namespace Go.Proofs.YtmgdjlkndbejkaaGreatDoor
open Go.Lib (hid)
section
open Go.RowKit
def QaEnd (l:List UInt8) (W:World) (e:Ending) (w':World):Prop :=
 ∃ A n c,e=.returned (.tuple #[.slice A n c,.bool (queQ l).isSome])∧QRd w' A n ((queQ l).getD [])∧n≤l.length∧Below W.heap.size W w'
theorem qa_of {l:List UInt8} {W w':World} {e:Ending} (h:QpEnd l W e w'):QaEnd l W e w':=by
 unfold QpEnd at h
 cases hq:queQ l with
 | none =>
   rw[hq] at h
   obtain ⟨rfl,hb⟩:=h
   exact ⟨none,0,0,by rw[hq];rfl,by rw[hq];exact ⟨rfl,fun h=>absurd h (by omega)⟩,Nat.zero_le _,hb⟩
 | some xs =>
   rw[hq] at h
   obtain ⟨⟨v,rfl,hr,hl⟩,hb⟩:=h
   obtain ⟨A,c,rfl,hrd⟩:=qrd_of hr
   exact ⟨A,xs.length,c,by rw[hq];rfl,by rw[hq];exact hrd,hl,hb⟩
structure QueC (G:World→Prop):Prop where
 stay:∀ w w',G w→Below w.heap.size w w'→G w'
 int:∀ (s:ByteArray) (w:World),G w→s.size≤100000→Calls Tryz.prog 83 #[.string s] w (InEnd s.data.toList w)
 parse:∀ (s:ByteArray) (w:World),G w→s.size≤100000→Calls Tryz.prog 7 #[.string s] w (QaEnd s.data.toList w)
theorem QueC.go {G:World→Prop}(C:QueC G){W w:World}(h:G W)(hb:Below W.heap.size W w):G w:=C.stay W w h hb
end
section
open Go.RowKit
def wS (ys:List Sel):Nat:=(ys.map fun y=>y.name.size).sum
def wq (xs:List Sgm):Nat:=(xs.map fun x=>x.sels.length+1+wS x.sels).sum
theorem wS_cons (y:Sel)(t:List Sel):wS (y :: t)=y.name.size+wS t:=by unfold wS;simp
theorem wq_cons (x:Sgm)(t:List Sgm):wq (x :: t)=x.sels.length+1+wS x.sels+wq t:=by unfold wq;simp
theorem wS_snoc {ys:List Sel} {k:Nat} (hk:k<ys.length):wS (ys.take (k+1))=wS (ys.take k)+ys[k].name.size:=by
 rw[List.take_succ_eq_append_getElem hk];unfold wS;rw[List.map_append,List.sum_append];simp only [List.map_cons,List.map_nil,List.sum_cons,List.sum_nil,Nat.add_zero]
theorem wq_snoc {xs:List Sgm} {k:Nat} (hk:k<xs.length):wq (xs.take (k+1))=wq (xs.take k)+(xs[k].sels.length+1+wS xs[k].sels):=by
 rw[List.take_succ_eq_append_getElem hk];unfold wq;rw[List.map_append,List.sum_append];simp only [List.map_cons,List.map_nil,List.sum_cons,List.sum_nil,Nat.add_zero]
theorem wS_mem:∀ {ys:List Sel} {y:Sel},y∈ys→y.name.size≤wS ys
 | a :: t,y,h=>by
   rw[wS_cons]
   rcases List.mem_cons.1 h with rfl|h
   ·omega
   ·have:=wS_mem h;omega
theorem wq_mem:∀ {xs:List Sgm} {x:Sgm},x∈xs→x.sels.length+1+wS x.sels≤wq xs
 | a :: t,x,h=>by
   rw[wq_cons]
   rcases List.mem_cons.1 h with rfl|h
   ·omega
   ·have:=wq_mem h;omega
theorem wq_len:∀ xs:List Sgm,xs.length≤wq xs
 | []=>Nat.zero_le _
 | x :: t=>by
   have:=wq_len t
   rw[wq_cons,List.length_cons]
   omega
theorem wS_take (ys:List Sel) (k:Nat):wS (ys.take k)≤wS ys:=by
 have:wS ys=wS (ys.take k)+wS (ys.drop k):=by
   conv=>lhs;rw[← List.take_append_drop k ys]
   unfold wS;rw[List.map_append,List.sum_append]
 omega
theorem wq_small {xs:List Sgm} {b:Nat} (h:wq xs≤b) (hb:b≤1000):SmQ xs:=by
 refine ⟨Nat.le_trans (wq_len xs) (by omega),fun x hx => ?_⟩
 have h1:=wq_mem hx
 refine ⟨by omega,fun y hy => ?_⟩
 have h2:=wS_mem hy
 omega
def RelGo (W:World)(xs:List Sgm)(n i:Value)(wr:World):Prop:=∃ k:Nat,k≤xs.length∧i=.int .i64 k∧n=.int .i64 (wq (xs.take k):Nat)∧wq (xs.take k)≤500∧Below W.heap.size W wr
def RelGi (W:World)(N:Nat)(ys:List Sel)(n j:Value)(wr:World):Prop:=∃ k:Nat,k≤ys.length∧j=.int .i64 k∧n=.int .i64 (N+wS (ys.take k):Nat)∧Below W.heap.size W wr
def GrEnd (xs:List Sgm)(W:World)(e:Ending)(w':World):Prop:=∃ g,e=.returned (.bool g)∧(g=false→wq xs≤500)∧Below W.heap.size W w'
theorem great15_any (xs:List Sgm) (A:Option Addr) (n c:Nat) (W:World) (hx:QRd W A n xs) (hw:wq xs≤2000000) :
   Calls Tryz.prog 5 #[.slice A n c] W (GrEnd xs W):=by
 have hl:xs.length=n:=hx.1
 have h9:=wq_len xs
 have HX:=hid hx
 clear hx
 go_enter Tryz.func5,Tryz.ntmps5
 go_wp2
 go_loopw [3,10] (fun n i wr=>RelGo W xs n i wr) (fun _ i _=>xs.length-(intOf i).toNat)
 case atStart=>exact ⟨0,Nat.zero_le _,rfl,rfl,by simp[wq],Below.refl _ _⟩
 case round =>
   obtain ⟨k,hk,rfl,rfl,ht,hb⟩:=hrel
   by_cases hlt:k<xs.length
   rotate_left
   ·have q2:¬ (k:Int)<n:=by omega
    have HE:=hid (show wq xs≤500 by rw[List.take_of_length_le (by omega)] at ht;exact ht)
    clear ht
    go_wp2
    go_ret
    exact ⟨false,rfl,fun _=>HE.out,hb⟩
   have q2:(k:Int)<n:=by omega
   have hk9:(k:Int)≤2000000:=by omega
   have hX:=HX.out.stay hb
   obtain ⟨a,rfl,ha,hc⟩:=hX.2 (by omega)
   obtain ⟨B,m,cc,s0,s1,sr⟩:=hc k xs[k] (List.getElem?_eq_getElem hlt)
   have hmem:=wq_mem (List.getElem_mem hlt)
   have HSN:=hid (wq_snoc hlt)
   clear hX hc
   generalize xs[k]=x at *
   generalize wq (xs.take k)=N0 at *
   have hm:x.sels.length=m:=sr.1
   have SR:=hid sr
   have HB:=hid hb
   have hN9:(N0:Int)≤500:=by omega
   have hN0:(0:Int)≤N0:=by omega
   have hm9:(m:Int)≤2000000:=by omega
   obtain ⟨N,hN⟩:∃ N:Nat,N=N0+(m+1):=⟨_,rfl⟩
   have HNI:=hid (show (N0:Int)+((m:Int)+1)=N by omega)
   have HNE:=hid hN
   have hN9b:(N:Int)≤3000000:=by omega
   clear sr hb hN
   obtain ⟨wo,hwo⟩:∃ wo,wo=wr:=⟨wr,rfl⟩
   subst hwo
   go_wp2
   go_loopw [3,23] (fun n j w=>RelGi wo N x.sels n j w) (fun _ j _=>x.sels.length-(intOf j).toNat)
   case atStart=>exact ⟨0,Nat.zero_le _,rfl,congrArg (Value.int .i64) (HNI.out.trans (by simp[wS])),below1 _ _⟩
   case round =>
     obtain ⟨j,hj,rfl,rfl,hbj⟩:=hrel
     have HB8:=hid (HB.out.trans (hbj.mono HB.out.size))
     have hwt:=wS_take x.sels j
     by_cases hjl:j<x.sels.length
     rotate_left
     ·have q3:¬ (j:Int)<m:=by omega
      have HG:=hid (show N+wS (x.sels.take j)=wq (xs.take (k+1)) by rw[HSN.out,List.take_of_length_le (by omega),HNE.out,hm];omega)
      have hz9:((wq (xs.take (k+1)):Nat):Int)≤6000000:=by have:=HG.out;omega
      rw[HG.out] at *
      by_cases hgr:500<wq (xs.take (k+1))
      ·have q5:((wq (xs.take (k+1)):Nat):Int)>500:=by omega
       generalize wq (xs.take (k+1))=Z at *
       go_wp2
       go_ret
       exact ⟨true,rfl,(fun h=>by cases h),HB8.out⟩
      ·have q5:¬ ((wq (xs.take (k+1)):Nat):Int)>500:=by omega
       have HZ:=hid (show wq (xs.take (k+1))≤500 by omega)
       generalize hZ:wq (xs.take (k+1))=Z at *
       have HZE:=hid hZ
       clear hZ
       go_wp2
       go_roundw
       case rel=>exact ⟨k+1,hlt,by go_num,by rw[HZE.out],by rw[HZE.out];exact HZ.out,HB8.out⟩
       case measure=>simp[intOf];omega
     have q3:(j:Int)<m:=by omega
     have hj9:(j:Int)≤2000000:=by omega
     have hSj:=SR.out.stay hbj
     obtain ⟨b2,rfl,hb2',d2⟩:=hSj.2 (by omega)
     obtain ⟨w0,w1,w2,w3,w4,w5,w6,w7⟩:=d2 j x.sels[j] (List.getElem?_eq_getElem hjl)
     have HWS:=hid (wS_snoc hjl)
     have hym:=wS_mem (List.getElem_mem hjl)
     have HBA:=hid (fun o=>hbj.alloc hbj.size o)
     clear hSj d2 hbj
     generalize x.sels[j]=y at *
     have hy9:(y.name.size:Int)≤2000000:=by omega
     generalize hM:N+wS (x.sels.take j)=M at *
     have hM9:(M:Int)≤6000000:=by omega
     have hM0:(0:Int)≤M:=by omega
     have HM:=hid hM
     clear hM
     go_wp2
     go_roundw
     case rel=>exact ⟨j+1,hjl,by go_num,by rw[HWS.out,← Nat.add_assoc,HM.out];go_num,HBA.out _⟩
     case measure=>simp[intOf];omega
end
section
open Go.RowKit
def aliveW:List Sgm:=[⟨false,[sqN [97]]⟩,⟨true,[sqA]⟩]
theorem aliveW_que:queQ [36,46,97,46,46,42]=some aliveW:=by kernel_rfl
theorem aliveW_put:putQ aliveW=[36,91,39,97,39,93,46,46,91,42,93]:=by decide +kernel
theorem writeAlive_of {G:World→Prop} (hstay:∀ w w',G w→Below w.heap.size w w'→G w')
   (htext:∀ (xs:List Sgm) (A:Option Addr) (n c:Nat) (w:World),G w→QRd w A n xs→SmQ xs→Calls Tryz.prog 6 #[.slice A n c] w fun e w'=>e=.returned (.string ⟨(putQ xs).toArray⟩)∧Below w.heap.size w w') (W:World) (hG:G W) :
   Calls Tryz.prog 4 #[] W fun e w'=>e=.returned (.bool true)∧Below W.heap.size W w':=by
 have KP:Calls Tryz.prog 10 #[.string ⟨#[36,46,97,46,46,42]⟩] W fun e w' => ∃ A n c,e=.returned (.tuple #[.slice A n c,.bool true])∧QRd w' A n aliveW∧Below W.heap.size W w':=by
   refine (rque_any ⟨#[36,46,97,46,46,42]⟩ W (by decide)).mono ?_
   rintro e w' h
   obtain ⟨A,n,c,rfl,hr,_,hb⟩:=qa_of h
   have hq:queQ (⟨#[36,46,97,46,46,42]⟩:ByteArray).data.toList=some aliveW:=aliveW_que
   rw[hq] at hr ⊢
   exact ⟨A,n,c,rfl,hr,hb⟩
 have KT:=hid (fun w A n c (hb:Below W.heap.size W w) (hr:QRd w A n aliveW)=>htext aliveW A n c w (hstay W w hG hb) hr (wq_small (b:=10) (by decide +kernel) (by decide)))
 rw[aliveW_put] at KT
 replace KP:=hid KP
 go_enter Tryz.func4,Tryz.ntmps4
 go_wp2_with (first
   | (go_at_call 10
      go_must (
        refine KP.out.mono ?_
        rintro e w1 ⟨A,n,c,rfl,hr,hb1⟩
        have HB1:=hid hb1
        have HR1:=hid hr
        clear hr hb1))
   | (go_at_call 6
      go_must (
        refine (KT.out _ _ _ _ HB1.out HR1.out).mono ?_
        rintro e w2 ⟨rfl,hb2⟩
        have HB2:=hid (HB1.out.trans (hb2.mono HB1.out.size))
        clear hb2)))
 go_ret
 exact ⟨rfl,HB2.out⟩
def QelAt (W:World) (b:Nat) (k:Int) (nm:ByteArray) (ix st en:Int) (hs he:Bool) (sd:Int) (w:World):Prop :=
 w.cell? ⟨b,0,none⟩=some (.int .i64 k)∧w.cell? ⟨b,1,none⟩=some (.string nm)∧w.cell? ⟨b,2,none⟩=some (.int .i64 ix)∧w.cell? ⟨b,3,none⟩=some (.int .i64 st)∧w.cell? ⟨b,4,none⟩=some (.int .i64 en) ∧
 w.cell? ⟨b,5,none⟩=some (.bool hs)∧w.cell? ⟨b,6,none⟩=some (.bool he)∧w.cell? ⟨b,7,none⟩=some (.int .i64 sd)∧Below W.heap.size W w∧b<w.heap.size∧W.heap.size≤w.heap.size
theorem QelAt.on {W w w':World} {b:Nat} {k ix st en sd:Int} {nm:ByteArray} {hs he:Bool} (h:QelAt W b k nm ix st en hs he sd w) (hb:Below w.heap.size w w'):QelAt W b k nm ix st en hs he sd w':=by
 obtain ⟨h0,h1,h2,h3,h4,h5,h6,h7,h8,h9,h10⟩:=h
 have c:∀ j,w'.cell? ⟨b,j,none⟩=w.cell? ⟨b,j,none⟩:=fun j=>hb.cell (p:=⟨b,j,none⟩) h9
 have hz:=hb.size
 exact ⟨(c 0).trans h0,(c 1).trans h1,(c 2).trans h2,(c 3).trans h3,(c 4).trans h4,(c 5).trans h5,(c 6).trans h6,(c 7).trans h7,h8.trans (hb.mono h10),by omega,by omega⟩
theorem QelAt.drew {W w:World}{b:Nat}{k ix st en sd:Int}{nm:ByteArray}{hs he:Bool}(h:QelAt W b k nm ix st en hs he sd w):QelAt W b k nm ix st en hs he sd w.drew:=h.on ⟨rfl,rfl,rfl,Nat.le_refl _,fun _ _=>rfl⟩
theorem QelAt.below {W w:World}{b:Nat}{k ix st en sd:Int}{nm:ByteArray}{hs he:Bool}(h:QelAt W b k nm ix st en hs he sd w):Below W.heap.size W w:=h.2.2.2.2.2.2.2.2.1
theorem QelAt.start {W w:World} (s:Sel) (h:Below W.heap.size W w):QelAt W w.heap.size s.kind s.name s.index s.start s.en s.hs s.he s.stride (w.alloc (.cells #[.int .i64 s.kind,.string s.name,.int .i64 s.index,.int .i64 s.start,.int .i64 s.en,.bool s.hs,.bool s.he,.int .i64 s.stride] 35)):=by
 have o:=Own.fresh w 35 #[.int .i64 s.kind,.string s.name,.int .i64 s.index,.int .i64 s.start,.int .i64 s.en,.bool s.hs,.bool s.he,.int .i64 s.stride]
 have hz:=h.size
 have e:(w.alloc (.cells #[.int .i64 s.kind,.string s.name,.int .i64 s.index,.int .i64 s.start,.int .i64 s.en,.bool s.hs,.bool s.he,.int .i64 s.stride] 35)).heap.size=w.heap.size+1:=by simp
 exact ⟨o.at 0,o.at 1,o.at 2,o.at 3,o.at 4,o.at 5,o.at 6,o.at 7,h.alloc hz _,by omega,by omega⟩
end
section
open Go.RowKit
theorem escQ_len {m:UInt8} {l b:List UInt8} {n:Nat} (h:escQ m l=some (b,n)):b.length≤n:=by
 cases l with
 | nil=>cases h
 | cons c t =>
   have h:(if c=m then some ([m],1) else if letE c≠0 then some ([letE c],1) else if c≠117 then none else escU (c :: t) t)=some (b,n):=h
   split at h
   ·injection h with h;injection h with h1 h2;rw[← h1,← h2];exact Nat.le_refl _
   split at h
   ·injection h with h;injection h with h1 h2;rw[← h1,← h2];exact Nat.le_refl _
   split at h
   ·cases h
   unfold escU at h
   split at h
   ·cases h
   ·rename_i v hv
    split at h
    ·cases h
    split at h
    ·injection h with h;injection h with h1 h2
     have:=ofB_len v
     rw[← h1,← h2]
     omega
    ·unfold escP at h
     split at h
     ·split at h
      ·cases h
      ·rename_i w hw
       split at h
       ·cases h
       ·injection h with h;injection h with h1 h2
        have:=ofB_len (65536+(v-55296)*1024+w-56320)
        rw[← h1,← h2]
        omega
     ·cases h
theorem quoGo_len (m:UInt8):∀ (f:Nat) (l acc:List UInt8) (k:Nat) (r:List UInt8) (n:Nat),quoGo m f l acc k=some (r,n)→r.length+k≤acc.length+n
 | 0,l,acc,k,r,n,h=>by cases h
 | f+1,[],acc,k,r,n,h=>by cases h
 | f + 1,c :: t,acc,k,r,n,h=>by
   have h:(if c=m then some (acc,k+1) else if c.toNat<32 then none else if c≠92 then quoGo m f t (acc++[c]) (k+1) else match escQ m t with
     | none=>none
     | some (b,n)=>quoGo m f (t.drop n) (acc++b) (k+1+n))=some (r,n):=h
   split at h
   ·injection h with h;injection h with h1 h2;rw[← h1,← h2];omega
   split at h
   ·cases h
   split at h
   ·have:=quoGo_len m f _ _ _ _ _ h
    rw[List.length_append] at this
    have this:r.length+(k+1)≤acc.length+1+n:=this
    omega
   split at h
   ·cases h
   ·rename_i b j he
    have hl:=escQ_len he
    have:=quoGo_len m f _ _ _ _ _ h
    rw[List.length_append] at this
    omega
theorem quoQ_len {l r:List UInt8} {n:Nat} (h:quoQ l=some (r,n)):r.length≤n:=by
 cases l with
 | nil=>cases h
 | cons m t =>
   have:=quoGo_len m _ t [] 1 r n h
   simp at this
   omega
theorem slcC_is {a b:Option Int} {l:List UInt8} {k n:Nat} {x:Sel} (h:slcC a b l k=some (x,n)):∃ c,x=sqS a b c:=by
 unfold slcC at h
 split at h
 ·cases h
 ·injection h with h;injection h with h1 h2;exact ⟨_,h1.symm⟩
 ·injection h with h;injection h with h1 h2;exact ⟨_,h1.symm⟩
theorem slcB_is {a:Option Int} {l:List UInt8} {k n:Nat} {x:Sel} (h:slcB a l k=some (x,n)):∃ b c,x=sqS a b c:=by
 unfold slcB at h
 split at h
 ·cases h
 ·split at h
  ·exact ⟨_,slcC_is h⟩
  ·injection h with h;injection h with h1 h2;exact ⟨_,_,h1.symm⟩
 ·split at h
  ·exact ⟨_,slcC_is h⟩
  ·injection h with h;injection h with h1 h2;exact ⟨_,_,h1.symm⟩
theorem slcQ_is {l:List UInt8} {n:Nat} {x:Sel} (h:slcQ l=some (x,n)):∃ a b c,x=sqS a b c:=by
 unfold slcQ at h
 split at h
 ·cases h
 ·split at h
  ·exact ⟨_,slcB_is h⟩
  ·cases h
 ·split at h
  ·exact ⟨_,slcB_is h⟩
  ·cases h
theorem selQ_len {l:List UInt8} {n:Nat} {x:Sel} (h:selQ l=some (x,n)):x.name.size≤n:=by
 unfold selQ at h
 split at h
 ·injection h with h;injection h with h1 h2;rw[← h1];exact Nat.zero_le _
 split at h
 ·cases hq:quoQ l with
  | none=>rw[hq] at h;cases h
  | some p =>
    rw[hq] at h
    injection h with h;injection h with h1 h2
    have:=quoQ_len (r:=p.1) (n:=p.2) hq
    rw[← h1,← h2]
    exact this
 cases hs:slcQ l with
 | some p =>
   rw[hs] at h
   have h:p=(x,n):=Option.some.inj h
   obtain ⟨a,b,c,hx⟩:=slcQ_is (x:=p.1) (n:=p.2) hs
   rw[h] at hx
   rw[show x=sqS a b c from hx]
   exact Nat.zero_le _
 | none =>
   rw[hs] at h
   cases hn:nrQ l with
   | none=>rw[hn] at h;cases h
   | some p =>
     rw[hn] at h
     injection h with h;injection h with h1 h2
     rw[← h1]
     exact Nat.zero_le _
theorem nxQ_len {l t:List UInt8} {y:Sel} (h:nxQ l=some (y,t)):y.name.size+t.length≤l.length:=by
 unfold nxQ at h
 cases hs:selQ l with
 | none=>rw[hs] at h;cases h
 | some p =>
   rw[hs] at h
   have h:(if EndS (skB (l.drop p.2)) then some (p.1,skB (l.drop p.2)) else none)=some (y,t):=h
   split at h
   ·injection h with h
    injection h with h1 h2
    have hl:=selQ_len (x:=p.1) (n:=p.2) hs
    have hi:=(selQ_in (x:=p.1) (n:=p.2) hs).2
    rw[← h1,← h2]
    unfold skB
    rw[List.length_drop,List.length_drop]
    omega
   ·cases h
theorem wS_app (a b:List Sel):wS (a++b)=wS a+wS b:=by unfold wS;rw[List.map_append,List.sum_append]
theorem wS_one (y:Sel):wS [y]=y.name.size:=by unfold wS;simp
theorem brkR_w:∀ (f:Nat) (r:List UInt8) (acc xs:List Sel) (r':List UInt8),badU r = -1→brkR f r acc=some (xs,r')→xs.length+wS xs+r'.length≤acc.length+wS acc+r.length
 | 0,r,acc,xs,r',hv,h=>by cases h
 | f + 1,r,acc,xs,r',hv,h=>by
   have hsk:=skB_short r
   rw[brkR_on,← nx_eq (skB r) (bad_skB _ hv) (runB_skB _)] at h
   cases hq:nxQ (skB r) with
   | none=>rw[hq] at h;cases h
   | some p =>
     obtain ⟨x,t⟩:=p
     obtain ⟨v1,v2⟩:=nx_bad (bad_skB _ hv) hq
     have hl:=nxQ_len hq
     have ht:t.tail.length+1=t.length:=by
       cases t with
       | nil=>rcases v2 with v2|v2<;>cases v2
       | cons a u=>rfl
     rw[hq] at h
     have h:(if t.head?=some 44 then brkR f t.tail (acc++[x]) else some (acc++[x],t.tail))=some (xs,r'):=h
     split at h
     ·have:=brkR_w f _ _ _ _ (bad_tail_end v1 v2) h
      rw[List.length_append,wS_app,wS_one] at this
      have this:xs.length+wS xs+r'.length≤acc.length+1+(wS acc+x.name.size)+t.tail.length:=this
      omega
     ·injection h with h
      injection h with h1 h2
      rw[← h1,← h2,List.length_append,wS_app,wS_one]
      show acc.length+1+_+_≤_
      omega
theorem shtR_w {l r:List UInt8} {xs:List Sel} (h:shtR l=some (xs,r)):xs.length+wS xs+r.length≤l.length+1∧r.length<l.length:=by
 unfold shtR at h
 split at h
 ·rename_i h42
  injection h with h;injection h with h1 h2
  rw[← h1,← h2,wS_one]
  cases l with
  | nil=>cases h42
  | cons a t =>
    refine ⟨?_,by simp⟩
    show 1+0+t.length≤t.length+1+1
    omega
 split at h
 ·cases h
 ·rename_i h0
  injection h with h;injection h with h1 h2
  have hp:plnN false l≤l.length:=by
    have:∀ (b:Bool) (l:List UInt8),plnN b l≤l.length:=by
      intro b l
      induction l generalizing b with
      | nil=>exact Nat.le_refl _
      | cons c t ih=>have:=ih true;unfold plnN;split<;>simp<;>omega
    exact this false l
  rw[← h1,← h2,wS_one,List.length_drop]
  have:(sqN (l.take (plnN false l))).name.size=plnN false l:=by
    show (l.take (plnN false l)).length=_
    rw[List.length_take];omega
  rw[this]
  refine ⟨?_,by omega⟩
  show 1+_+_≤_
  omega
theorem sgmP_w {l r:List UInt8} {x:Sgm} (hv:badU l = -1) (h:sgmP l=some (x,r)):x.sels.length+1+wS x.sels+2*r.length≤2*l.length:=by
 unfold sgmP at h
 split at h
 ·rename_i hd2
  obtain ⟨u,rfl⟩:=two_dots hd2
  have hv2:badU u = -1:=bad_tail (bad_tail hv (by decide)) (by decide)
  obtain ⟨a,h9,ha9⟩:=map_in (f:=fun a=>(⟨true,a⟩:Sgm)) h
  clear h
  subst ha9
  have h9:(if u.head?=some 91 then brkS u.tail else shtR u)=some (a,r):=h9
  show a.length+1+wS a+2*r.length≤2*(u.length+1+1)
  split at h9
  ·rename_i h91
   have h:=brkR_w _ _ [] _ _ (tail_head hv2 h91 (by decide)) h9
   have e:([]:List Sel).length+wS []=0:=rfl
   rw[e,List.length_tail] at h
   omega
  ·obtain ⟨h1,h2⟩:=shtR_w h9
   omega
 split at h
 ·rename_i h91
  obtain ⟨a,h9,ha9⟩:=map_in (f:=fun a=>(⟨false,a⟩:Sgm)) h
  clear h
  subst ha9
  have h:=brkR_w _ _ [] _ _ (tail_head hv h91 (by decide)) h9
  have e:([]:List Sel).length+wS []=0:=rfl
  rw[e,List.length_tail] at h
  show a.length+1+wS a+2*r.length≤2*l.length
  cases l with
  | nil=>cases h91
  | cons c t=>simp at h ⊢;omega
 split at h
 ·rename_i h46
  obtain ⟨a,h9,ha9⟩:=map_in (f:=fun a=>(⟨false,a⟩:Sgm)) h
  clear h
  subst ha9
  obtain ⟨h1,h2⟩:=shtR_w h9
  rw[List.length_tail] at h1 h2
  show a.length+1+wS a+2*r.length≤2*l.length
  omega
 ·cases h
theorem wq_app (a b:List Sgm):wq (a++b)=wq a+wq b:=by unfold wq;rw[List.map_append,List.sum_append]
theorem wq_one (x:Sgm):wq [x]=x.sels.length+1+wS x.sels:=by unfold wq;simp
theorem queR_w:∀ (f:Nat) (l:List UInt8) (acc xs:List Sgm),badU l = -1→queR f l acc=some xs→wq xs≤wq acc+2*l.length
 | 0,l,acc,xs,hv,h=>by cases h
 | f + 1,l,acc,xs,hv,h=>by
   rw[queR_on] at h
   split at h
   ·rw[← Option.some.inj h];omega
   ·cases hq:sgmP (skB l) with
    | none=>rw[hq] at h;cases h
    | some p =>
      obtain ⟨x,r⟩:=p
      rw[hq] at h
      have hsk:=skB_short l
      have h1:=sgmP_w (bad_skB _ hv) hq
      have h2:=queR_w f r (acc++[x]) xs (sgm_bad (bad_skB _ hv) hq) h
      rw[wq_app,wq_one] at h2
      omega
theorem wq_que (l:List UInt8):wq ((queQ l).getD [])≤2*l.length:=by
 rw[queQ_is]
 split
 ·rename_i hh
  cases hq:queR (l.length+1) l.tail [] with
  | none=>exact Nat.zero_le _
  | some xs =>
    have:=queR_w _ _ [] xs (tail_head hh.1 hh.2 (by decide)) hq
    have e:wq []=0:=rfl
    rw[e,List.length_tail] at this
    show wq xs≤_
    omega
 ·exact Nat.zero_le _
theorem selsT_w:∀ ys:List Sel,(selsT ys).length≤61*(ys.length+wS ys)
 | []=>Nat.zero_le _
 | [y]=>by
   have:=selT_len y
   show (selT y).length≤_
   rw[wS_one]
   simp
   omega
 | y :: z :: t=>by
   have h1:=selT_len y
   have h2:=selsT_w (z :: t)
   show (selT y++44 :: selsT (z :: t)).length≤_
   rw[wS_cons,List.length_append]
   simp only [List.length_cons] at h2 ⊢
   omega
theorem flat_w:∀ xs:List Sgm,(xs.flatMap sgmT).length≤61*wq xs
 | []=>Nat.zero_le _
 | x :: t=>by
   have h1:=selsT_w x.sels
   have h2:=flat_w t
   rw[List.flatMap_cons,List.length_append,wq_cons]
   have h3:(sgmT x).length≤4+(selsT x.sels).length:=by
     unfold sgmT
     split<;>simp<;>omega
   omega
theorem put_w (xs:List Sgm):(putQ xs).length≤61*wq xs+1:=by
 unfold putQ
 split
 ·have:=flat_w xs
  show (xs.flatMap sgmT).length+1≤_
  omega
 ·exact Nat.zero_le _
end
section
open Go.RowKit
theorem list_ba15 (l:List UInt8):(⟨l.toArray⟩:ByteArray).data.toList=l:=rfl
structure WriteB (G:World→Prop):Prop where
 stay:∀ w w',G w→Below w.heap.size w w'→G w'
 right:∀ (xs:List Sgm) (A:Option Addr) (n c:Nat) (w:World),G w→QRd w A n xs→SmQ xs→Calls Tryz.prog 8 #[.slice A n c] w fun e w'=>e=.returned (.bool (rightQ xs))∧Below w.heap.size w w'
 text:∀ (xs:List Sgm) (A:Option Addr) (n c:Nat) (w:World),G w→QRd w A n xs→SmQ xs→Calls Tryz.prog 6 #[.slice A n c] w fun e w'=>e=.returned (.string ⟨(putQ xs).toArray⟩)∧Below w.heap.size w w'
 same:∀ (xs ys:List Sgm) (A A':Option Addr) (n n' c c':Nat) (w:World),G w→QRd w A n xs→QRd w A' n' ys→SmQ xs→SmQ ys→Calls Tryz.prog 9 #[.slice A n c,.slice A' n' c'] w (SqEnd xs ys w)
theorem WriteB.go {G:World→Prop}(C:WriteB G){W w:World}(h:G W)(hb:Below W.heap.size W w):G w:=C.stay W w h hb
theorem writeBack_core {G:World→Prop} (C:WriteB G) (D:QueC G) (xs:List Sgm) (A:Option Addr) (n c:Nat) (s:ByteArray) (W:World) (hG:G W) (hx:QRd W A n xs) (hw:wq xs≤2000000) (hs:s.size≤maxLen) :
   Calls Tryz.prog 3 #[.slice A n c,.string s] W fun e w'=>e=.returned (.bool true)∧Below W.heap.size W w':=by
 have KV:=hid (writeAlive_of C.stay C.text W hG)
 have HX:=hid hx
 have KG1:=hid (fun w (hb:Below W.heap.size W w)=>great15_any xs A n c w (HX.out.stay hb) hw)
 unfold GrEnd at KG1
 unfold maxLen at hs
 clear hx
 by_cases h9:s.size>500
 ·have q : (s.size:Int)>500:=by omega
  go_enter Tryz.func3,Tryz.ntmps3
  go_wp2_with (first
    | (go_at_call 4;refine KV.out.mono ?_;rintro e w1 ⟨rfl,hb1⟩;have HB1:=hid hb1;clear hb1)
    | (go_at_call 5
       go_must (
         refine (KG1.out _ HB1.out).mono ?_
         rintro e w2 ⟨g1,rfl,hg1,hb2⟩
         have HB2:=hid (HB1.out.trans (hb2.mono HB1.out.size))
         clear hb2 hg1
         cases g1)))
  all_goals
    go_ret
    exact ⟨rfl,HB2.out⟩
 have q:¬ (s.size:Int)>500:=by omega
 go_enter Tryz.func3,Tryz.ntmps3
 go_upto_region 5 with (first
   | (go_at_call 4;refine KV.out.mono ?_;rintro e w1 ⟨rfl,hb1⟩;have HB1:=hid hb1;clear hb1)
   | (go_at_call 5
      go_must (
        refine (KG1.out _ HB1.out).mono ?_
        rintro e w2 ⟨g1,rfl,hg1,hb2⟩
        have HB2:=hid (HB1.out.trans (hb2.mono HB1.out.size))
        have HG1:=hid hg1
        clear hb2 hg1
        cases g1)))
 rotate_left
 ·go_ret
  exact ⟨rfl,HB2.out⟩
 have hq:wq xs≤500:=HG1.out (by first|rfl|trivial)
 have HSX:=hid (wq_small hq (by decide))
 have hpw:=put_w xs
 have hps:(⟨(putQ xs).toArray⟩:ByteArray).size≤100000:=by show (putQ xs).length≤_;omega
 have hws:=wq_que s.data.toList
 have hws:wq ((queQ s.data.toList).getD [])≤2*s.size:=hws
 have HSS:=hid (wq_small (xs:=(queQ s.data.toList).getD []) (b:=1000) (by omega) (by decide))
 have hpw2:=put_w ((queQ s.data.toList).getD [])
 have hps2:(⟨(putQ ((queQ s.data.toList).getD [])).toArray⟩:ByteArray).size≤100000:=by show (putQ ((queQ s.data.toList).getD [])).length≤_;omega
 have HRS:=hid (read_right s.data.toList)
 have KT:=hid (fun w (hb:Below W.heap.size W w)=>C.text xs A n c w (C.go hG hb) (HX.out.stay hb) HSX.out)
 have KR:=hid (fun w (hb:Below W.heap.size W w)=>C.right xs A n c w (C.go hG hb) (HX.out.stay hb) HSX.out)
 have KP1:=hid (fun w (hb:Below W.heap.size W w)=>D.parse ⟨(putQ xs).toArray⟩ w (C.go hG hb) hps)
 have KE1:=hid (fun w A1 n1 c1 (hb:Below W.heap.size W w) (h1:QRd w A1 n1 xs)=>C.same xs xs A1 A n1 n c1 c w (C.go hG hb) h1 (HX.out.stay hb) HSX.out HSX.out)
 have KP2:=hid (fun w (hb:Below W.heap.size W w)=>D.parse s w (C.go hG hb) (by omega))
 unfold QaEnd at KP1 KP2
 unfold SqEnd at KE1
 rw[list_ba15] at KP1
 have HPS:=hid (put_some (xs:=xs))
 clear KV KG1 HG1 hw hq hpw hws hpw2 hps
 have key:∀ (ok:Bool),ok=rightQ xs→((queQ (putQ xs)).isSome=ok∧(ok=true→(queQ (putQ xs)).getD []=xs)∧((⟨(putQ xs).toArray⟩:ByteArray).toList.isEmpty = !ok)):=by
   intro ok hok
   subst hok
   refine ⟨put_some,fun h=>by rw[queQ_put h];rfl,?_⟩
   rw[ByteArray.toList_eq]
   show (putQ xs).isEmpty=_
   cases hr:rightQ xs with
   | true =>
     have:=put_ne hr
     cases hp:putQ xs with
     | nil=>exact absurd hp this
     | cons a b=>rfl
   | false=>rw[(queQ_empty hr).1];rfl
 obtain ⟨k1,k2,k3⟩:=key _ rfl
 have HK2:=hid k2
 rw[k1] at KP1
 clear key k1 k2
 cases hr:rightQ xs
 ·rw [hr] at KR KP1 k3
  have k3:(⟨(putQ xs).toArray⟩:ByteArray).toList.isEmpty=true:=k3
  generalize (⟨(putQ xs).toArray⟩:ByteArray)=T1 at *
  go_upto_region 9 with (first
    | (go_at_call 6;refine (KT.out _ HB2.out).mono ?_;rintro e w3 ⟨rfl,hb3⟩;have HB3:=hid (HB2.out.trans (hb3.mono HB2.out.size));clear hb3)
    | (go_at_call 7
       go_must (
         refine (KP1.out _ HB3.out).mono ?_
         rintro e w4 ⟨A4,n4,c4,rfl,hr4,_,hb4⟩
         have HB4:=hid (HB3.out.trans (hb4.mono HB3.out.size))
         have HR4:=hid hr4
         clear hb4 hr4))
    | (go_at_call 8;refine (KR.out _ HB4.out).mono ?_;rintro e w5 ⟨rfl,hb5⟩;have HB5:=hid (HB4.out.trans (hb5.mono HB4.out.size));have HR5:=hid (HR4.out.stay hb5);clear hb5))
  have HBZ:=hid HB5.out
  clear KT KR KP1 KE1 HB3 HB4 HB5 HR4 HR5
  have KT2:=hid (fun w A1 n1 c1 (hb:Below W.heap.size W w) (h:QRd w A1 n1 ((queQ s.data.toList).getD []))=>C.text _ A1 n1 c1 w (C.go hG hb) h HSS.out)
  have KR2:=hid (fun w A1 n1 c1 (hb:Below W.heap.size W w) (h:QRd w A1 n1 ((queQ s.data.toList).getD []))=>C.right _ A1 n1 c1 w (C.go hG hb) h HSS.out)
  have KP3:=hid (fun w (hb:Below W.heap.size W w)=>D.parse ⟨(putQ ((queQ s.data.toList).getD [])).toArray⟩ w (C.go hG hb) hps2)
  have KE3:=hid (fun w A1 n1 c1 A3 n3 c3 (hb:Below W.heap.size W w) (h1:QRd w A1 n1 ((queQ s.data.toList).getD [])) (h3:QRd w A3 n3 ((queQ s.data.toList).getD []))=>C.same _ _ A1 A3 n1 n3 c1 c3 w (C.go hG hb) h1 h3 HSS.out HSS.out)
  unfold QaEnd at KP3
  unfold SqEnd at KE3
  rw[list_ba15,put_some,queQ_put HRS.out] at KP3
  have hrs:=HRS.out
  rw[hrs] at KP3 KR2
  have KP2':=KP2.out
  clear HSS HRS hrs hps2 KP2
  have KP2:=hid KP2'
  clear KP2'
  cases hqs:queQ s.data.toList with
  | none =>
    rw[hqs] at KP2
    go_wp2_with (go_at_call 7
                 go_must (
                   refine (KP2.out _ HBZ.out).mono ?_
                   rintro e w6 ⟨A6,n6,c6,rfl,hr6,_,hb6⟩
                   have HB6:=hid (HBZ.out.trans (hb6.mono HBZ.out.size))
                   clear hb6 hr6))
    go_ret
    exact ⟨rfl,HB6.out⟩
  | some ds =>
    rw[hqs] at KP2 KT2 KR2 KP3 KE3
    have tk:=trivial
    go_wp2_with (first
      | (go_at_call 7
         clear tk
         go_must (
           refine (KP2.out _ HBZ.out).mono ?_
           rintro e w6 ⟨A6,n6,c6,rfl,hr6,_,hb6⟩
           have HB6:=hid (HBZ.out.trans (hb6.mono HBZ.out.size))
           have HR6:=hid hr6
           clear hb6 hr6))
      | (go_at_call 6
         go_must (
           refine (KT2.out _ _ _ _ HB6.out HR6.out).mono ?_
           rintro e w7 ⟨rfl,hb7⟩
           have HB7:=hid (HB6.out.trans (hb7.mono HB6.out.size))
           have HR7:=hid (HR6.out.stay hb7)
           clear hb7))
      | (go_at_call 7
         go_must (
           refine (KP3.out _ HB7.out).mono ?_
           rintro e w8 ⟨A8,n8,c8,rfl,hr8,_,hb8⟩
           have HB8:=hid (HB7.out.trans (hb8.mono HB7.out.size))
           have HR8:=hid (HR7.out.stay hb8)
           have HQ8:=hid hr8
           clear hb8 hr8))
      | (go_at_call 8
         go_must (
           refine (KR2.out _ _ _ _ HB8.out HR8.out).mono ?_
           rintro e w9 ⟨rfl,hb9⟩
           have HB9:=hid (HB8.out.trans (hb9.mono HB8.out.size))
           have HR9:=hid (HR8.out.stay hb9)
           have HQ9:=hid (HQ8.out.stay hb9)
           clear hb9))
      | (go_at_call 9
         go_must (
           refine (KE3.out _ _ _ _ _ _ _ HB9.out HR9.out HQ9.out).mono ?_
           rintro e w10 ⟨b10,rfl,he10,hb10⟩
           obtain rfl:b10=true:=he10.2 (by first|rfl|trivial)
           have HB10:=hid (HB9.out.trans (hb10.mono HB9.out.size))
           clear hb10 he10)))
    go_ret
    exact ⟨rfl,HB10.out⟩
 ·rw [hr] at KR KP1 k3
  have k3:(⟨(putQ xs).toArray⟩:ByteArray).toList.isEmpty=false:=k3
  rw[HK2.out hr] at KP1
  generalize (⟨(putQ xs).toArray⟩:ByteArray)=T1 at *
  go_upto_region 9 with (first
    | (go_at_call 6;refine (KT.out _ HB2.out).mono ?_;rintro e w3 ⟨rfl,hb3⟩;have HB3:=hid (HB2.out.trans (hb3.mono HB2.out.size));clear hb3)
    | (go_at_call 7
       go_must (
         refine (KP1.out _ HB3.out).mono ?_
         rintro e w4 ⟨A4,n4,c4,rfl,hr4,_,hb4⟩
         have HB4:=hid (HB3.out.trans (hb4.mono HB3.out.size))
         have HR4:=hid hr4
         clear hb4 hr4))
    | (go_at_call 8;refine (KR.out _ HB4.out).mono ?_;rintro e w5 ⟨rfl,hb5⟩;have HB5:=hid (HB4.out.trans (hb5.mono HB4.out.size));have HR5:=hid (HR4.out.stay hb5);clear hb5)
    | (go_at_call 9
       go_must (
         refine (KE1.out _ _ _ _ HB5.out HR5.out).mono ?_
         rintro e w5b ⟨b5,rfl,he5,hb5b⟩
         obtain rfl:b5=true:=he5.2 (by first|rfl|trivial)
         have HB5b:=hid (HB5.out.trans (hb5b.mono HB5.out.size))
         clear hb5b he5)))
  have HBZ:=hid HB5b.out
  clear KT KR KP1 KE1 HB3 HB4 HB5 HR4 HR5
  have KT2:=hid (fun w A1 n1 c1 (hb:Below W.heap.size W w) (h:QRd w A1 n1 ((queQ s.data.toList).getD []))=>C.text _ A1 n1 c1 w (C.go hG hb) h HSS.out)
  have KR2:=hid (fun w A1 n1 c1 (hb:Below W.heap.size W w) (h:QRd w A1 n1 ((queQ s.data.toList).getD []))=>C.right _ A1 n1 c1 w (C.go hG hb) h HSS.out)
  have KP3:=hid (fun w (hb:Below W.heap.size W w)=>D.parse ⟨(putQ ((queQ s.data.toList).getD [])).toArray⟩ w (C.go hG hb) hps2)
  have KE3:=hid (fun w A1 n1 c1 A3 n3 c3 (hb:Below W.heap.size W w) (h1:QRd w A1 n1 ((queQ s.data.toList).getD [])) (h3:QRd w A3 n3 ((queQ s.data.toList).getD []))=>C.same _ _ A1 A3 n1 n3 c1 c3 w (C.go hG hb) h1 h3 HSS.out HSS.out)
  unfold QaEnd at KP3
  unfold SqEnd at KE3
  rw[list_ba15,put_some,queQ_put HRS.out] at KP3
  have hrs:=HRS.out
  rw[hrs] at KP3 KR2
  have KP2':=KP2.out
  clear HSS HRS hrs hps2 KP2
  have KP2:=hid KP2'
  clear KP2'
  cases hqs:queQ s.data.toList with
  | none =>
    rw[hqs] at KP2
    go_wp2_with (go_at_call 7
                 go_must (
                   refine (KP2.out _ HBZ.out).mono ?_
                   rintro e w6 ⟨A6,n6,c6,rfl,hr6,_,hb6⟩
                   have HB6:=hid (HBZ.out.trans (hb6.mono HBZ.out.size))
                   clear hb6 hr6))
    go_ret
    exact ⟨rfl,HB6.out⟩
  | some ds =>
    rw[hqs] at KP2 KT2 KR2 KP3 KE3
    have tk:=trivial
    go_wp2_with (first
      | (go_at_call 7
         clear tk
         go_must (
           refine (KP2.out _ HBZ.out).mono ?_
           rintro e w6 ⟨A6,n6,c6,rfl,hr6,_,hb6⟩
           have HB6:=hid (HBZ.out.trans (hb6.mono HBZ.out.size))
           have HR6:=hid hr6
           clear hb6 hr6))
      | (go_at_call 6
         go_must (
           refine (KT2.out _ _ _ _ HB6.out HR6.out).mono ?_
           rintro e w7 ⟨rfl,hb7⟩
           have HB7:=hid (HB6.out.trans (hb7.mono HB6.out.size))
           have HR7:=hid (HR6.out.stay hb7)
           clear hb7))
      | (go_at_call 7
         go_must (
           refine (KP3.out _ HB7.out).mono ?_
           rintro e w8 ⟨A8,n8,c8,rfl,hr8,_,hb8⟩
           have HB8:=hid (HB7.out.trans (hb8.mono HB7.out.size))
           have HR8:=hid (HR7.out.stay hb8)
           have HQ8:=hid hr8
           clear hb8 hr8))
      | (go_at_call 8
         go_must (
           refine (KR2.out _ _ _ _ HB8.out HR8.out).mono ?_
           rintro e w9 ⟨rfl,hb9⟩
           have HB9:=hid (HB8.out.trans (hb9.mono HB8.out.size))
           have HR9:=hid (HR8.out.stay hb9)
           have HQ9:=hid (HQ8.out.stay hb9)
           clear hb9))
      | (go_at_call 9
         go_must (
           refine (KE3.out _ _ _ _ _ _ _ HB9.out HR9.out HQ9.out).mono ?_
           rintro e w10 ⟨b10,rfl,he10,hb10⟩
           obtain rfl:b10=true:=he10.2 (by first|rfl|trivial)
           have HB10:=hid (HB9.out.trans (hb10.mono HB9.out.size))
           clear hb10 he10)))
    go_ret
    exact ⟨rfl,HB10.out⟩
end
end Go.Proofs.YtmgdjlkndbejkaaGreatDoor
