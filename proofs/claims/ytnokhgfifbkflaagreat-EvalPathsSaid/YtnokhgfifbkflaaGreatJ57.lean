/- Lemmas. -/
import Derived.Test.YtnokhgfifbkflaaGreatProg
import Derived.Test.YtnokhgfifbkflaaGreatJ38
import Derived.Test.YtnokhgfifbkflaaGreatJ44
import Derived.Test.YtnokhgfifbkflaaGreatJ56
set_option maxRecDepth 100000
set_option maxHeartbeats 8000000
set_option linter.unusedVariables false
set_option linter.unusedSimpArgs false
namespace Go.Proofs.YtnokhgfifbkflaaGreat
open Go.Lib (hid)
section
open Go.RowKit
theorem sum_getD (l:List (List UInt8)):∀ i,(l.getD i []).length≤(l.map fun s=>s.length+1).sum:=by
 induction l with
 | nil=>intro i;exact Nat.le_refl _
 | cons a r ih =>
   intro i
   rw[List.map_cons,List.sum_cons]
   cases i with
   | zero=>show a.length≤_;omega
   | succ i=>have:=ih i;show (r.getD i []).length≤_;omega
theorem path_wt:∀ (w:List Nat) (v:Tree),wayT v w→wtP (stpsT v w)≤wtT v
 | [],v,h=>Nat.zero_le _
 | i :: r,v,h=>by
   rw[wayT] at h
   have h1:=path_wt r (itmT v i) h.2
   have h2:=wt_mem (List.mem_of_getElem? (items_getD v h.1))
   have h3:=wtT_is v
   have h4:(stpT v i).name.length≤(v.names.map fun s=>s.length+1).sum:=by
     unfold stpT
     split
     ·exact sum_getD _ _
     ·exact Nat.zero_le _
   rw[stpsT]
   show (((stpT v i :: stpsT (itmT v i) r)).map fun s=>s.name.length+1).sum≤_
   rw[List.map_cons,List.sum_cons]
   have h5:((stpsT (itmT v i) r).map fun s=>s.name.length+1).sum≤wtT (itmT v i):=h1
   omega
structure PathF (v:Tree) (d:Nd):Prop where
 que:queQ (putP d.p)=some (d.p.map ofSgm)
 wt:wtP d.p≤1000
 len:(putP d.p).length≤30000
 mem:d∈nodesT v (d.p.map ofSgm)
 one:twiceT v=false→nodesT v (d.p.map ofSgm)=[d]
 ok:OkE v (d.p.map ofSgm) 1000
theorem path_facts {v:Tree} {q:List Sgm} (hf:FitV v) (hN:NamT v) (hc:cnT v≤1000) {d:Nd} (hd:d∈nodesT v q):PathF v d:=by
 obtain ⟨ha,ho,hk,hw⟩:=hf
 obtain ⟨w,hwy,_,rfl⟩:=mem_nodes.1 hd
 have hr:=stps_right w v hk hwy
 have hp:=path_wt w v hwy
 have k0:OkE v [] 1000:=okE_of hN hc ha ho ⟨by decide,fun g hg=>by cases hg⟩
 exact {
   que:=path_que hk hwy
   wt:=by show wtP (stpsT v w)≤1000;omega
   len:=by
     show (putP (stpsT v w)).length≤30000
     rw[putP_some hr,List.length_cons]
     have:=flat_le _ hr
     omega
   mem:=path_found hk hwy
   one:=fun ht=>path_one ho hk ht hwy
   ok := ⟨k0.fit,k0.arm,k0.ord,k0.few,by
       show ((stpsT v w).map ofSgm).length≤1000
       rw[List.length_map]
       have:=wt_length (stpsT v w)
       omega,fun g hg=>by
       obtain ⟨s,hs,rfl⟩:=List.mem_map.1 hg
       refine ⟨by show 1≤8;decide,fun y hy => ?_⟩
       have hy:y=ofSel s:=by simpa [ofSgm] using hy
       rw[hy]
       exact good_rightI (ofSel_good (List.all_eq_true.1 hr s hs))⟩ }
end
section
open Go.RowKit
def RelF (w8:World)(l:List Nd)(d:Nd)(f i:Value)(wr:World):Prop:=∃ (k:Nat) (b:Bool),k≤l.length∧i=.int .i64 k∧f=.bool b∧(d∈l.take k→b=true)∧Below w8.heap.size w8 wr
def RelO (w3:World)(len:Nat)(i:Value)(wr:World):Prop:=∃ k:Nat,k≤len∧i=.int .i64 k∧Below w3.heap.size w3 wr
set_option maxHeartbeats 16000000 in
theorem evalPaths_all (q:List Sgm) (A:Option Addr) (n c:Nat) (B:Option Addr) (bl bc:Nat) (W:World) (hq:QRd W A n q)
   (hgiv:∀ w,Below W.heap.size W w→Calls Tryz.prog 7 #[.slice B bl bc,.slice A n c] w (GivEnd FitV q w)) :
   Calls Tryz.prog 5 #[.slice B bl bc,.slice A n c] W fun e w'=>e=.returned (.bool true)∧Below W.heap.size W w':=by
 have KA:=hid (evalAlive_any W)
 have KG:=hid hgiv
 unfold GivEnd at KG
 have HQ:=hid hq
 clear hgiv hq
 go_enter Tryz.func5,Tryz.ntmps5
 go_upto_region 4 with (first
   | (go_at_call 6;refine KA.out.mono ?_;rintro e w1 ⟨rfl,hb1⟩;have HB1:=hid hb1;clear hb1)
   | (go_at_call 7
      go_must (
        refine (KG.out _ HB1.out).mono ?_
        rintro e w2 ⟨k1,f1,t1,x1,A2,n2,c2,B2,m2,d2,ok,rfl,hok,hb2⟩
        have HB2:=hid (HB1.out.trans (hb2.mono HB1.out.size))
        have HOK:=hid hok
        clear hb2 hok)))
 have hb3:=HB2.out.trans ((below1 w2 (.cells #[.int .i64 k1,.int .i64 f1,.int .i64 t1,.string ⟨x1.toArray⟩,.slice A2 n2 c2,.slice B2 m2 d2] 29)).mono HB2.out.size)
 have HB3:=hid hb3
 clear hb3
 cases ok
 ·go_wp2
  go_ret
  exact ⟨rfl,HB3.out⟩
 obtain ⟨v,hv,hN,hc,hoq,hxv⟩:=HOK.out rfl
 have HXV:=hid hxv
 have hO:=Own.fresh w2 29 #[.int .i64 k1,.int .i64 f1,.int .i64 t1,.string ⟨x1.toArray⟩,.slice A2 n2 c2,.slice B2 m2 d2]
 have HV:=hid (hv.stay (below1 w2 (.cells #[.int .i64 k1,.int .i64 f1,.int .i64 t1,.string ⟨x1.toArray⟩,.slice A2 n2 c2,.slice B2 m2 d2] 29)))
 have HO:=hid hO
 have HNM:=hid hN
 have HC:=hid hc
 have HOE:=hid (okE_of hN hc hxv.1 hxv.2.1 hoq)
 clear hv hN hc hoq hO HOK hxv
 obtain ⟨w3,hw3⟩:∃ w3,w3=w2.alloc (.cells #[.int .i64 k1,.int .i64 f1,.int .i64 t1,.string ⟨x1.toArray⟩,.slice A2 n2 c2,.slice B2 m2 d2] 29):=⟨_,rfl⟩
 have HBB:=hid (show Below w3.heap.size w3 (w2.alloc (.cells #[.int .i64 k1,.int .i64 f1,.int .i64 t1,.string ⟨x1.toArray⟩,.slice A2 n2 c2,.slice B2 m2 d2] 29)) by rw[hw3];exact Below.refl _ _)
 rw[← hw3] at HB3 HV HO
 clear hw3
 have HS6:=hid (fun w' (hb:Below w3.heap.size w3 w')=>show w'.cell? ⟨w2.heap.size,0,none⟩=some (.int .i64 k1)∧w'.cell? ⟨w2.heap.size,1,none⟩=some (.int .i64 f1)∧w'.cell? ⟨w2.heap.size,2,none⟩=some (.int .i64 t1)∧w'.cell? ⟨w2.heap.size,3,none⟩=some (.string ⟨x1.toArray⟩)∧w'.cell? ⟨w2.heap.size,4,none⟩=some (.slice A2 n2 c2)∧w'.cell? ⟨w2.heap.size,5,none⟩=some (.slice B2 m2 d2) from by
   have o:=HO.out.stay hb HO.out.inside
   exact ⟨o.at 0,o.at 1,o.at 2,o.at 3,o.at 4,o.at 5⟩)
 have HWW:=hid (fun w' (hb:Below w3.heap.size w3 w')=>HB3.out.trans (hb.mono HB3.out.size))
 have KN:=hid (fun w' (hb:Below w3.heap.size w3 w')=>show Calls _ _ #[.agg #[.int .i64 k1,.int .i64 f1,.int .i64 t1,.string ⟨x1.toArray⟩,.slice A2 n2 c2,.slice B2 m2 d2],.slice A n c] w' (EvEnd (nodesT v q) w') from enodes_any v ⟨k1,f1,t1,x1,A2,n2,c2,B2,m2,d2⟩ q A n c 1000 w' (HV.out.stay hb) (HQ.out.stay (HWW.out w' hb)) HOE.out)
 have KN2:=hid (fun (p:List Sgm) (A':Option Addr) (n' c':Nat) w' (hb:Below w3.heap.size w3 w') (hq:QRd w' A' n' p) (hok:OkE v p 1000)=>show Calls _ _ #[.agg #[.int .i64 k1,.int .i64 f1,.int .i64 t1,.string ⟨x1.toArray⟩,.slice A2 n2 c2,.slice B2 m2 d2],.slice A' n' c'] w' (EvEnd (nodesT v p) w') from enodes_any v ⟨k1,f1,t1,x1,A2,n2,c2,B2,m2,d2⟩ p A' n' c' 1000 w' (HV.out.stay hb) hq hok)
 have KT:=hid (fun w' (hb:Below w3.heap.size w3 w')=>show Calls _ _ #[.agg #[.int .i64 k1,.int .i64 f1,.int .i64 t1,.string ⟨x1.toArray⟩,.slice A2 n2 c2,.slice B2 m2 d2]] w' (fun e w''=>e=.returned (.bool (twiceT v))∧Below w'.heap.size w' w'') from rtwice_any v ⟨k1,f1,t1,x1,A2,n2,c2,B2,m2,d2⟩ w' (HV.out.stay hb) (Nat.le_trans HXV.out.2.2.2 (by decide)))
 unfold EvEnd at KN KN2
 go_wp2_with (go_at_call 9
              go_must (
                refine (KN.out _ HBB.out).mono ?_
                rintro e w5 ⟨A5,m5,c5,rfl,⟨ns,r1,r2,r3⟩,hb5⟩
                have H5:=hid (HBB.out.trans (hb5.mono HBB.out.size))
                have R1:=hid r1
                have R2:=hid r2
                have R3:=hid r3
                have hm5:(nodesT v q).length=m5:=by have:=r1.1;omega
                have hl9:(nodesT v q).length≤1000:=Nat.le_trans (nodes_len v q) HC.out
                clear hb5 r1 r2 r3))
 have HPF:=hid (fun d (hd:d∈nodesT v q)=>path_facts HXV.out HNM.out HC.out hd)
 generalize nodesT v q=L at *
 go_loopw [29] (fun i wr=>RelO w5 L.length i wr) (fun i _=>L.length-(intOf i).toNat)
 case atStart=>exact ⟨0,Nat.zero_le _,rfl,Below.refl _ _⟩
 case round =>
   obtain ⟨k,hk,rfl,hb⟩:=hrel
   have hk9:(k:Int)≤1000:=by omega
   have hB3':=H5.out.trans (hb.mono H5.out.size)
   by_cases hlt:k<L.length
   rotate_left
   ·have q2:¬ (k:Int)<m5:=by omega
    have HE:=hid (HWW.out _ hB3')
    clear hb hB3'
    go_wp2
    go_ret
    exact ⟨rfl,HE.out⟩
   have q2:(k:Int)<m5:=by omega
   obtain ⟨wo,hwo⟩:∃ wo,wo=wr:=⟨wr,rfl⟩
   subst hwo
   have hke:k<ns.length:=by have:=R2.out;omega
   have re:=R1.out.below hb
   obtain ⟨eb,eo,rfl,heb,_⟩:=re.2 (by omega)
   have ce:∀ r u,(enK.enc ns[k])[r]?=some u→wo.cell? ⟨eb,eo+(k*3+r),none⟩=some u:=fun r u hu=>re.at rfl (List.getElem?_eq_getElem hke) (j:=r) (u:=u) hu
   obtain ⟨f1',f2',f3'⟩:=R3.out k _ _ (List.getElem?_eq_getElem hke) (List.getElem?_eq_getElem hlt)
   have hpf:=HPF.out _ (List.getElem_mem hlt)
   have f3:=f3'.below hb
   generalize ns[k]=s at *
   generalize L[k]=d at *
   obtain ⟨S1,n1,c1,fr1,td1⟩:=s
   replace f1':fr1=d.t.fr:=f1'
   replace f2':td1=d.t.to:=f2'
   replace f3:RdG stpK wo S1 n1 d.p:=f3
   have a0:wo.cell? ⟨eb,eo+k*3,none⟩=some (.slice S1 n1 c1):=ce 0 _ rfl
   have a1:wo.cell? ⟨eb,eo+k*3+1,none⟩=some (.int .i64 fr1):=by rw[Nat.add_assoc];exact ce 1 _ rfl
   have a2:wo.cell? ⟨eb,eo+k*3+2,none⟩=some (.int .i64 td1):=by rw[Nat.add_assoc];exact ce 2 _ rfl
   have oA:=Own.fresh wo 49 #[.slice S1 n1 c1,.int .i64 fr1,.int .i64 td1]
   have bA:=below1 wo (.cells #[.slice S1 n1 c1,.int .i64 fr1,.int .i64 td1] 49)
   have HF:=hid (And.intro f1' f2')
   have HB:=hid hB3'
   have HB5:=hid hb
   have HBA:=hid bA
   have HOA:=hid (fun w' (hb:Below (wo.alloc (.cells #[.slice S1 n1 c1,.int .i64 fr1,.int .i64 td1] 49)).heap.size (wo.alloc (.cells #[.slice S1 n1 c1,.int .i64 fr1,.int .i64 td1] 49)) w')=>oA.stay hb oA.inside)
   have KP:=hid (put13_any d.p S1 n1 c1 _ (rdp_of (f3.below bA)) hpf.wt)
   have KQ:=hid (fun w=>show Calls Tryz.prog 15 #[.string ⟨(putP d.p).toArray⟩] w fun e w' => ∃ A n c,e=.returned (.tuple #[.slice A n c,.bool true])∧QRd w' A n (d.p.map ofSgm)∧Below w.heap.size w w' from by
     refine (queC.parse ⟨(putP d.p).toArray⟩ w trivial (by have:=hpf.len;show (putP d.p).length≤100000;omega)).mono ?_
     rintro e w' ⟨A,n,c,rfl,hr,_,hb⟩
     have hq:queQ (⟨(putP d.p).toArray⟩:ByteArray).data.toList=some (d.p.map ofSgm):=hpf.que
     rw[hq] at hr ⊢
     exact ⟨A,n,c,rfl,hr,hb⟩)
   have HPD:=hid hpf
   clear hb hB3' re ce f1' f2' f3' f3 hpf oA bA hke
   generalize (⟨(putP d.p).toArray⟩:ByteArray)=ps at *
   go_wp2_with (first
     | (go_at_call 16
        go_must (
          refine KP.out.mono ?_
          rintro e w6 ⟨rfl,hb6⟩
          have H6:=hid hb6
          clear hb6))
     | (go_at_call 15
        go_must (
          refine (KQ.out w6).mono ?_
          rintro e w7 ⟨A7,n7,c7,rfl,hq7,hb7⟩
          have h7:=H6.out.trans (hb7.mono H6.out.size)
          have H7:=hid h7
          have h73:=HB.out.trans ((HBA.out.trans (h7.mono HBA.out.size)).mono HB.out.size)
          obtain ⟨z0,z1,z2,z3,z4,z5⟩:=HS6.out w7 h73
          have H73:=hid h73
          have KN7:=hid (KN2.out (d.p.map ofSgm) A7 n7 c7 w7 h73 hq7 HPD.out.ok)
          clear hq7 hb7 h7 h73))
     | (go_at_call 9
        go_must (
          refine KN7.out.mono ?_
          rintro e w8 ⟨A8,m8,c8,rfl,⟨ms,r1,r2,r3⟩,hb8⟩
          have H8:=hid (H7.out.trans (hb8.mono H7.out.size))
          have H83:=hid (H73.out.trans (hb8.mono H73.out.size))
          have Q1:=hid r1
          have Q2:=hid r2
          have Q3:=hid r3
          have hm8:(nodesT v (d.p.map ofSgm)).length=m8:=by have:=r1.1;omega
          have hl8:(nodesT v (d.p.map ofSgm)).length≤1000:=Nat.le_trans (nodes_len v _) HC.out
          have HM:=hid (show d∈nodesT v (d.p.map ofSgm)∧(twiceT v=false→(nodesT v (d.p.map ofSgm)).length=1) from ⟨HPD.out.mem,fun h=>by rw[HPD.out.one h];rfl⟩)
          clear hb8 r1 r2 r3 z0 z1 z2 z3 z4 z5)))
   generalize nodesT v (d.p.map ofSgm)=L2 at *
   go_loopw [12,47] (fun f i wr=>RelF w8 L2 d f i wr) (fun _ i _=>L2.length-(intOf i).toNat)
   case atStart=>exact ⟨0,false,Nat.zero_le _,rfl,rfl,(fun h=>by rw[List.take_zero] at h;cases h),Below.refl _ _⟩
   case round =>
     obtain ⟨j,b,hj,rfl,rfl,hin,hb⟩:=hrel
     have hj9:(j:Int)≤1000:=by omega
     have h8r:=H8.out.trans (hb.mono H8.out.size)
     have h83:=H83.out.trans (hb.mono H83.out.size)
     by_cases hjl:j<L2.length
     rotate_left
     ·have p2:¬ (j:Int)<m8:=by omega
      obtain rfl:b=true:=hin (by rw[List.take_of_length_le (by omega)];exact HM.out.1)
      obtain ⟨z0,z1,z2,z3,z4,z5⟩:=HS6.out wr h83
      have KT1:=hid (KT.out wr h83)
      have HX:=hid (HB5.out.trans ((HBA.out.trans (h8r.mono HBA.out.size)).mono HB5.out.size))
      have HH8:=hid h8r
      have HM2:=hid HM.out.2
      clear hin hb h8r h83
      cases htw:twiceT v
      ·rw[htw] at KT1
       have hone:=HM2.out htw
       have p3:((m8:Int) != 1)=false:=by rw[← hm8,hone];rfl
       clear htw hone
       go_wp2_with (go_at_call 17;refine KT1.out.mono ?_;rintro e w9 ⟨rfl,hb9⟩;have HN:=hid (show RelO w5 L.length (.int .i64 ((k+1:Nat):Int)) w9 from ⟨k+1,hlt,rfl,HX.out.trans (hb9.mono HX.out.size)⟩);clear hb9)
       go_roundw
       case rel=>exact HN.out
       case measure=>simp[intOf]<;>omega
      ·rw[htw] at KT1
       clear htw
       go_wp2_with (go_at_call 17;refine KT1.out.mono ?_;rintro e w9 ⟨rfl,hb9⟩;have HN:=hid (show RelO w5 L.length (.int .i64 ((k+1:Nat):Int)) w9 from ⟨k+1,hlt,rfl,HX.out.trans (hb9.mono HX.out.size)⟩);clear hb9)
       go_roundw
       case rel=>exact HN.out
       case measure=>simp[intOf]<;>omega
     have p2:(j:Int)<m8:=by omega
     have hkm:j<ms.length:=by have:=Q2.out;omega
     have rm:=Q1.out.below hb
     obtain ⟨mb,mo,rfl,hmb,_⟩:=rm.2 (by omega)
     have cm:∀ r u,(enK.enc ms[j])[r]?=some u→wr.cell? ⟨mb,mo+(j*3+r),none⟩=some u:=fun r u hu=>rm.at rfl (List.getElem?_eq_getElem hkm) (j:=r) (u:=u) hu
     obtain ⟨g1,g2,_⟩:=Q3.out j _ _ (List.getElem?_eq_getElem hkm) (List.getElem?_eq_getElem hjl)
     have htk:=List.take_succ_eq_append_getElem hjl
     generalize ms[j]=s2 at *
     obtain ⟨S3,n3,c3,fr3,td3⟩:=s2
     replace g1:fr3=L2[j].t.fr:=g1
     replace g2:td3=L2[j].t.to:=g2
     have b0:wr.cell? ⟨mb,mo+j*3,none⟩=some (.slice S3 n3 c3):=cm 0 _ rfl
     have b1:wr.cell? ⟨mb,mo+j*3+1,none⟩=some (.int .i64 fr3):=by rw[Nat.add_assoc];exact cm 1 _ rfl
     have b2:wr.cell? ⟨mb,mo+j*3+2,none⟩=some (.int .i64 td3):=by rw[Nat.add_assoc];exact cm 2 _ rfl
     have o8:=HOA.out wr h8r
     have HWO:=hid (show wo.heap.size<wr.heap.size from o8.inside)
     have nn:=below1 wr (.cells #[.slice S3 n3 c3,.int .i64 fr3,.int .i64 td3] 49)
     have n1:(wr.alloc (.cells #[.slice S3 n3 c3,.int .i64 fr3,.int .i64 td3] 49)).cell? ⟨wo.heap.size,1,none⟩=some (.int .i64 fr1):=(nn.cell (p:=⟨wo.heap.size,1,none⟩) HWO.out).trans (o8.at 1)
     have n2:(wr.alloc (.cells #[.slice S3 n3 c3,.int .i64 fr3,.int .i64 td3] 49)).cell? ⟨wo.heap.size,2,none⟩=some (.int .i64 td1):=(nn.cell (p:=⟨wo.heap.size,2,none⟩) HWO.out).trans (o8.at 2)
     have HBn:=hid (hb.trans (nn.mono hb.size))
     have HIN:=hid (show ∀ b',(b=true→b'=true)→((fr3=fr1∧td3=td1)→b'=true)→RelF w8 L2 d (.bool b') (.int .i64 ((j+1:Nat):Int)) (wr.alloc (.cells #[.slice S3 n3 c3,.int .i64 fr3,.int .i64 td3] 49)) from fun b' h1 h2=>⟨j+1,b',hjl,rfl,rfl,fun h=>by
       rw[htk] at h
       rcases List.mem_append.1 h with h|h
       ·exact h1 (hin h)
       ·have e:=List.mem_singleton.1 h
        rw[← e] at g1 g2
        exact h2 ⟨g1.trans HF.out.1.symm,g2.trans HF.out.2.symm⟩,HBn.out⟩)
     clear hin hb h8r h83 rm cm g1 g2 htk o8 nn hkm hmb
     cases b
     ·by_cases e1:fr3=fr1
      ·have v1:((fr3:Int)==fr1)=true:=by rw[e1];simp
       by_cases e2:td3=td1
       ·have v2:((td3:Int)==td1)=true:=by rw[e2];simp
        have HN:=hid (HIN.out true (fun _=>rfl) (fun _=>rfl))
        clear HIN e1 e2
        go_wp2
        go_roundw
        case rel=>exact HN.out
        case measure=>simp[intOf]<;>omega
       ·have v2:((td3:Int)==td1)=false:=beq_eq_false_iff_ne.2 (by omega)
        have HN:=hid (HIN.out false (fun h=>h) (fun h=>absurd h.2 e2))
        clear HIN e1 e2
        go_wp2
        go_roundw
        case rel=>exact HN.out
        case measure=>simp[intOf]<;>omega
      ·have v1:((fr3:Int)==fr1)=false:=beq_eq_false_iff_ne.2 (by omega)
       have HN:=hid (HIN.out false (fun h=>h) (fun h=>absurd h.1 e1))
       clear HIN e1
       go_wp2
       go_roundw
       case rel=>exact HN.out
       case measure=>simp[intOf]<;>omega
     ·have HN:=hid (HIN.out true (fun h=>h) (fun _=>rfl))
      clear HIN
      go_wp2
      go_roundw
      case rel=>exact HN.out
      case measure=>simp[intOf]<;>omega
end
end Go.Proofs.YtnokhgfifbkflaaGreat
