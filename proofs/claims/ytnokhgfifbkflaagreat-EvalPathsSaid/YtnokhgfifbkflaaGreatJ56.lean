/- Lemmas. -/
import Derived.Test.YtnokhgfifbkflaaGreatProg
import Derived.Test.YtnokhgfifbkflaaGreatJ36
import Derived.Test.YtnokhgfifbkflaaGreatJ55
set_option maxRecDepth 100000
set_option maxHeartbeats 8000000
set_option linter.unusedVariables false
set_option linter.unusedSimpArgs false
namespace Go.Proofs.YtnokhgfifbkflaaGreat
open Go.Lib (hid)
section
open Go.RowKit
def ofSel (s:Pst):Sel:=if s.named then sqN s.name else sqI s.index
def ofSgm (s:Pst):Sgm:=⟨false,[ofSel s]⟩
def ofQ (l:List Pst):List Sgm:=if l.all rightB then l.map ofSgm else []
theorem ofSel_good {s:Pst} (h:rightB s=true):goodB (ofSel s)=true:=by
 unfold ofSel
 cases hn:s.named
 ·obtain ⟨_,h1,h2⟩:=right_index h hn
  rw[if_neg (by decide)]
  exact good_index ⟨by omega,by omega⟩
 ·rw[if_pos rfl]
  exact good_name (right_name h hn).2
theorem ofSel_text {s:Pst} (h:rightB s=true):selT (ofSel s)=if s.named then nameT s.name else digN s.index.toNat:=by
 have hg:=ofSel_good h
 unfold selT
 rw[hg,if_neg (by decide)]
 unfold ofSel
 cases hn:s.named
 ·obtain ⟨_,h1,h2⟩:=right_index h hn
  simp only [Bool.false_eq_true,if_false]
  show (if (2:Int)=0 then _ else if (2:Int)=1 then _ else if (2:Int)=2 then numT s.index else _)=_
  rw[if_neg (by decide),if_neg (by decide),if_pos rfl]
  unfold numT
  rw[if_neg (by omega)]
 ·simp only [if_true]
  show (if (0:Int)=0 then nameT (⟨s.name.toArray⟩:ByteArray).data.toList else _)=_
  rw[if_pos rfl]
theorem ofSgm_text {s:Pst} (h:rightB s=true):sgmT (ofSgm s)=stepT s:=by
 unfold sgmT ofSgm stepT
 show (if false=true then _ else _)++91 :: (selT (ofSel s)++[93])=_
 rw[ofSel_text h,if_neg (by decide)]
 rfl
theorem ofQ_flat:∀ l:List Pst,l.all rightB=true→(l.map ofSgm).flatMap sgmT=l.flatMap stepT
 | [],_=>rfl
 | s :: t,h=>by
   simp only [List.all_cons,Bool.and_eq_true] at h
   rw[List.map_cons,List.flatMap_cons,List.flatMap_cons,ofSgm_text h.1,ofQ_flat t h.2]
theorem ofQ_right:∀ l:List Pst,l.all rightB=true→rightQ (l.map ofSgm)=true
 | [],_=>rfl
 | s :: t,h=>by
   simp only [List.all_cons,Bool.and_eq_true] at h
   have ih:=ofQ_right t h.2
   unfold rightQ at ih ⊢
   rw[List.map_cons,List.all_cons,ih]
   show (!([ofSel s]:List Sel).isEmpty && [ofSel s].all goodB&&true)=true
   rw[List.all_cons,ofSel_good h.1]
   rfl
theorem ofQ_put {l:List Pst} (h:l.all rightB=true):putQ (ofQ l)=putP l:=by
 unfold putQ putP ofQ
 rw[if_pos h,if_pos h,ofQ_right l h,if_pos rfl,ofQ_flat l h]
theorem putP_some {l:List Pst}(h:l.all rightB=true):putP l=36 :: l.flatMap stepT:=if_pos h
theorem ofQ_all (l:List Pst)(h:l.all rightB=true):ofQ l=l.map ofSgm:=if_pos h
end
section
open Go.RowKit
mutual
def twiceT:Tree→Bool
 | .mk kd fr td tx items names => !decide names.Nodup||twiceL items
def twiceL:List Tree→Bool
 | []=>false
 | t :: ts=>twiceT t||twiceL ts
end
theorem kidT_iff (v:Tree):KidT v↔((v.kd=4∧v.items.length≤9007199254740991)∨(v.kd=5∧v.names.length=v.items.length ∧ ∀ s∈v.names,badU s = -1)∨v.items=[])∧KidL v.items:=by
 obtain ⟨kd,fr,td,tx,items,names⟩:=v
 rw[KidT]
 exact Iff.rfl
theorem twiceT_is (v:Tree):twiceT v=(!decide v.names.Nodup||twiceL v.items):=by
 obtain ⟨kd,fr,td,tx,items,names⟩:=v
 rw[twiceT]
 rfl
theorem kidL_at:∀ (ts:List Tree) (k:Nat) (t:Tree),KidL ts→ts[k]?=some t→KidT t
 | [],k,t,h,e=>by simp at e
 | u :: ts,0,t,h,e=>by
   rw[KidL] at h
   obtain rfl:u=t:=by simpa using e
   exact h.1
 | u :: ts,k+1,t,h,e=>by rw[KidL] at h;exact kidL_at ts k t h.2 (by simpa using e)
theorem twiceL_at:∀ (ts:List Tree) (k:Nat) (t:Tree),twiceL ts=false→ts[k]?=some t→twiceT t=false
 | [],k,t,h,e=>by simp at e
 | u :: ts,0,t,h,e=>by
   rw[twiceL,Bool.or_eq_false_iff] at h
   obtain rfl:u=t:=by simpa using e
   exact h.1
 | u :: ts,k+1,t,h,e=>by
   rw[twiceL,Bool.or_eq_false_iff] at h
   exact twiceL_at ts k t h.2 (by simpa using e)
theorem names_in (v:Tree) {i:Nat} (h:i<v.names.length):v.names.getD i []=v.names[i]:=by
 rw[List.getD_eq_getElem?_getD,List.getElem?_eq_getElem h]
 rfl
theorem stp_of {v:Tree} {i:Nat} (h:KidT v) (hi:i<v.items.length):KidT (itmT v i)∧rightB (stpT v i)=true∧hitT v i (ofSel (stpT v i))=true ∧
   ∀ j,j<v.items.length→twiceT v=false→hitT v j (ofSel (stpT v i))=true→j=i:=by
 obtain ⟨h1,h2⟩:=(kidT_iff v).1 h
 refine ⟨kidL_at _ i _ h2 (items_getD v hi),?_⟩
 rcases h1 with ⟨hk,hl⟩|⟨hk,hl,hn⟩|he
 ·have n5:¬ v.kd=5:=by omega
  have e:stpT v i=⟨false,[],i⟩:=by unfold stpT;rw[if_neg n5]
  have hit:∀ j:Nat,j<v.items.length→hitT v j (ofSel ⟨false,[],i⟩)=decide ((i:Int)=j):=by
    intro j hj
    unfold hitT ofSel
    rw[if_neg n5,decide_eq_true hk]
    show (true&&(decide ((2:Int)=1)||hasS (sqI i) j v.items.length))=_
    have:hasS (sqI i) j v.items.length=decide ((i:Int)=j):=by
      unfold hasS
      rw[if_neg (by omega)]
      show (if (2:Int)=2 then decide (placeI (i:Int) v.items.length=j) else _)=_
      rw[if_pos rfl]
      unfold placeI
      rw[if_pos (by omega)]
    rw[this]
    rfl
  rw[e]
  refine ⟨?_,?_,fun j hj _ hh => ?_⟩
  ·unfold rightB
   show (if (false:Bool)=true then _ else decide (([]:List UInt8)=[])&&decide (0≤(i:Int)∧(i:Int)≤9007199254740991))=true
   rw[if_neg (by decide),decide_eq_true rfl,decide_eq_true (by omega)]
   rfl
  ·rw[hit i hi];exact decide_eq_true rfl
  ·rw[hit j hj] at hh
   have:=of_decide_eq_true hh
   omega
 ·have e:stpT v i=⟨true,v.names.getD i [],0⟩:=by unfold stpT;rw[if_pos hk]
  have hit:∀ j:Nat,hitT v j (ofSel ⟨true,v.names.getD i [],0⟩)=decide (v.names.getD j []=v.names.getD i []):=by
    intro j
    unfold hitT ofSel
    rw[if_pos hk]
    show (decide ((0:Int)=1)||(decide ((0:Int)=0)&&decide (v.names.getD j []=(⟨(v.names.getD i []).toArray⟩:ByteArray).data.toList)))=_
    rfl
  rw[e]
  refine ⟨?_,?_,fun j hj ht hh => ?_⟩
  ·unfold rightB
   show (if (true:Bool)=true then decide ((0:Int)=0)&&decide (badU (v.names.getD i []) = -1) else _)=true
   rw[if_pos rfl,decide_eq_true rfl,decide_eq_true]
   ·rfl
   ·rw[names_in v (by omega)]
    exact hn _ (List.getElem_mem _)
  ·rw[hit];exact decide_eq_true rfl
  ·rw [hit] at hh
   have hh:=of_decide_eq_true hh
   rw[twiceT_is,Bool.or_eq_false_iff] at ht
   have hd:v.names.Nodup:=by
     have:=ht.1
     rw[Bool.not_eq_false'] at this
     exact of_decide_eq_true this
   rw[names_in v (by omega),names_in v (by omega)] at hh
   exact (List.getElem_inj hd).1 hh
 ·rw[he] at hi
  exact absurd hi (by simp)
theorem twice_itm {v:Tree} {i:Nat} (h:twiceT v=false) (hi:i<v.items.length):twiceT (itmT v i)=false:=by
 rw[twiceT_is,Bool.or_eq_false_iff] at h
 exact twiceL_at _ i _ h.2 (items_getD v hi)
theorem stps_right:∀ (w:List Nat) (v:Tree),KidT v→wayT v w→(stpsT v w).all rightB=true
 | [],v,_,_=>rfl
 | i :: w,v,h,hw=>by
   show (rightB (stpT v i)&&(stpsT (itmT v i) w).all rightB)=true
   have:=stp_of h hw.1
   rw[this.2.1,stps_right w _ this.1 hw.2]
   rfl
theorem led_path (i:Nat) (w:List Nat) (v:Tree) (s:Pst) (q:List Sgm):ledT (i :: w) v (ofSgm s :: q)=(hitT v i (ofSel s)&&ledT w (itmT v i) q):=by
 show ((false&&ledT w (itmT v i) (ofSgm s :: q))||(([ofSel s].any fun x=>hitT v i x)&&ledT w (itmT v i) q))=_
 rw[Bool.false_and,Bool.false_or,List.any_cons,List.any_nil,Bool.or_false]
theorem path_leads:∀ (w:List Nat) (v:Tree),KidT v→wayT v w→ledT w v ((stpsT v w).map ofSgm)=true
 | [],v,_,_=>rfl
 | i :: w,v,h,hw=>by
   have hs:=stp_of h hw.1
   show ledT (i :: w) v (ofSgm (stpT v i) :: (stpsT (itmT v i) w).map ofSgm)=true
   rw[led_path,hs.2.2.1,path_leads w _ hs.1 hw.2]
   rfl
theorem path_alone:∀ (w w':List Nat) (v:Tree),KidT v→twiceT v=false→wayT v w→wayT v w'→ledT w' v ((stpsT v w).map ofSgm)=true→w'=w
 | [],[],v,_,_,_,_,_=>rfl
 | [],j :: w',v,_,_,_,_,h=>by cases h
 | i :: w,[],v,_,_,_,_,h=>by cases h
 | i :: w,j :: w',v,hk,ht,hw,hw',h=>by
   have hs:=stp_of hk hw.1
   have h:ledT (j :: w') v (ofSgm (stpT v i) :: (stpsT (itmT v i) w).map ofSgm)=true:=h
   rw[led_path,Bool.and_eq_true] at h
   have e:=hs.2.2.2 j hw'.1 ht h.1
   subst e
   rw[path_alone w w' _ hs.1 (twice_itm ht hw.1) hw.2 hw'.2 h.2]
theorem path_que {v:Tree} {w:List Nat} (h:KidT v) (hw:wayT v w):queQ (putP (stpsT v w))=some ((stpsT v w).map ofSgm):=by
 have hr:=stps_right w v h hw
 have e:=ofQ_put hr
 rw[← e,ofQ_all _ hr]
 exact queQ_put (ofQ_right _ hr)
theorem path_found {v:Tree} {w:List Nat} (h:KidT v) (hw:wayT v w):ndT v w∈nodesT v ((stpsT v w).map ofSgm) :=
 mem_nodes.2 ⟨w,hw,path_leads w v h hw,rfl⟩
theorem path_one {v:Tree} {w:List Nat} {i j:Nat} (ho:OrdT v i j) (h:KidT v) (ht:twiceT v=false) (hw:wayT v w):nodesT v ((stpsT v w).map ofSgm)=[ndT v w]:=by
 refine sorted_eq (fun n=>n.t.fr) _ _ (nodes_ord ho _) (by simp) fun x => ?_
 rw[mem_nodes,List.mem_singleton]
 constructor
 ·rintro ⟨w',h1,h2,rfl⟩
  rw[path_alone w w' v h ht hw h1 h2]
 ·rintro rfl
  exact ⟨w,hw,path_leads w v h hw,rfl⟩
end
section
open Go.RowKit
theorem wtT_is (v:Tree):wtT v=1+(v.names.map fun s=>s.length+1).sum+wtL v.items:=by
 obtain ⟨kd,fr,td,tx,items,names⟩:=v
 rw[wtT]
 rfl
section
variable {l:List UInt8} {sm:Nat→PartR}
end
end
section
open Go.RowKit
theorem wt_items (t:Tree):t.names.length≤wtT t∧wtL t.items≤wtT t:=by
 have h:∀ l:List (List UInt8),l.length≤(l.map fun s=>s.length+1).sum:=fun l=>by
   induction l with
   | nil=>exact Nat.le_refl _
   | cons a r ih=>rw[List.map_cons,List.sum_cons,List.length_cons];omega
 have:=h t.names
 rw[wtT_is]
 omega
theorem wt_pos (t:Tree):1≤wtT t:=by rw[wtT_is];omega
theorem wt_mem:∀ {ts:List Tree} {t:Tree},t∈ts→wtT t≤wtL ts
 | u :: ts,t,h=>by
   rw[wtL]
   rcases List.mem_cons.1 h with rfl|h
   ·omega
   ·have:=wt_mem h;omega
theorem wt_len:∀ ts:List Tree,ts.length≤wtL ts
 | []=>Nat.le_refl _
 | t :: ts=>by
   rw[wtL,List.length_cons]
   have:=wt_len ts
   have:=wt_pos t
   omega
theorem dup_snoc {l:List (List UInt8)} {k:Nat} (hk:k<l.length) (h:(l.take k).Nodup) (hn:∀ r,r<k→l.getD r []≠l.getD k []):(l.take (k+1)).Nodup:=by
 rw[List.take_succ_eq_append_getElem hk,List.nodup_append]
 refine ⟨h,by simp,fun a ha b hb e => ?_⟩
 obtain rfl:=List.mem_singleton.1 hb
 subst e
 obtain ⟨r,hr,e⟩:=List.getElem_of_mem ha
 rw[List.length_take] at hr
 rw[List.getElem_take] at e
 refine hn r (by omega) ?_
 rw[List.getD_eq_getElem?_getD,List.getD_eq_getElem?_getD,List.getElem?_eq_getElem (by omega:r<l.length),List.getElem?_eq_getElem hk]
 exact e
theorem dup_no {l:List (List UInt8)} {k r:Nat} (hk:k<l.length) (hr:r<k) (h:l.getD r []=l.getD k []):¬ l.Nodup:=by
 intro hn
 rw[List.getD_eq_getElem?_getD,List.getD_eq_getElem?_getD,List.getElem?_eq_getElem (by omega:r<l.length),List.getElem?_eq_getElem hk] at h
 have:=(List.getElem_inj hn).1 (show l[r]=l[k] from h)
 omega
theorem twiceL_snoc (y:Tree):∀ ts:List Tree,twiceL (ts++[y])=(twiceL ts||twiceT y)
 | []=>by show (twiceT y||twiceL [])=_;simp[twiceL]
 | t :: ts=>by
   show (twiceT t||twiceL (ts++[y]))=(twiceT t||twiceL ts||twiceT y)
   rw[twiceL_snoc y ts,Bool.or_assoc]
theorem twiceL_yes:∀ (ts:List Tree) (t:Tree),t∈ts→twiceT t=true→twiceL ts=true
 | u :: ts,t,h,e=>by
   rw[twiceL]
   rcases List.mem_cons.1 h with rfl|h
   ·rw[e];rfl
   ·rw[twiceL_yes ts t h e,Bool.or_true]
def TwR (t:Tree):Prop:=∀ (x:V6) (W:World),VIs W t x→wtT t≤100000 →
 Calls Tryz.prog 17 #[.agg #[.int .i64 x.kd,.int .i64 x.fr,.int .i64 x.to,.string ⟨x.tx.toArray⟩,.slice x.A x.n x.c,.slice x.B x.m x.d]] W fun e w'=>e=.returned (.bool (twiceT t))∧Below W.heap.size W w'
def RelTw (W1:World)(names:List (List UInt8))(i:Value)(wr:World):Prop:=∃ k:Nat,k≤names.length∧i=.int .i64 k∧(names.take k).Nodup∧Below W1.heap.size W1 wr
def RelTx (W1:World)(names:List (List UInt8))(k:Nat)(j:Value)(wr:World):Prop:=∃ i:Nat,i≤k∧j=.int .i64 i∧(∀ r,r<i→names.getD r []≠names.getD k [])∧Below W1.heap.size W1 wr
def RelTy (W1:World)(items:List Tree)(i:Value)(wr:World):Prop:=∃ k:Nat,k≤items.length∧i=.int .i64 k∧twiceL (items.take k)=false∧Below W1.heap.size W1 wr
set_option maxHeartbeats 16000000 in
theorem rtwice_of (t:Tree) (ih:∀ u∈t.items,TwR u):TwR t:=by
 intro x W hv hw
 obtain ⟨w1,w2⟩:=wt_items t
 have w3:=wt_len t.items
 have w4:∀ u∈t.items,wtT u≤100000:=fun u hu=>by have:=wt_mem hu;omega
 obtain ⟨kd,fr,td,tx,items,names⟩:=t
 have hm:=hv.many
 have hcap:x.n≤x.c:=by unfold VIs at hv;exact hv.2.2.2.2.1
 have hcap2:x.m≤x.d:=by unfold VIs at hv;exact hv.2.2.2.2.2.1
 have h7:RdG namK W x.B x.m names:=by unfold VIs at hv;exact hv.2.2.2.2.2.2.1
 have h8:∃ xs,RdG valK W x.A x.n xs∧VLs W items xs:=by unfold VIs at hv;exact hv.2.2.2.2.2.2.2
 obtain ⟨xs,h8,h9⟩:=h8
 have hxl:=h9.len
 obtain ⟨xk,xf,xt,xx,xA,n,xc,xB,m,xd⟩:=x
 obtain ⟨hmn,hmm⟩:=hm
 replace hmn:items.length=n:=Eq.symm hmn
 replace hmm:names.length=m:=Eq.symm hmm
 replace hcap:n≤xc:=hcap
 replace hcap2:m≤xd:=hcap2
 replace h7:RdG namK W xB m names:=h7
 replace h8:RdG valK W xA n xs:=h8
 replace w1:names.length≤100000:=Nat.le_trans w1 hw
 replace w3:items.length≤100000:=Nat.le_trans w3 (Nat.le_trans w2 hw)
 replace w4:∀ u∈items,wtT u≤100000:=w4
 replace ih:∀ u∈items,TwR u:=ih
 have e0:twiceT (.mk kd fr td tx items names)=(!decide names.Nodup||twiceL items):=by rw[twiceT]
 rw[e0]
 obtain ⟨W1,hW1⟩:∃ W1,W1=W.alloc (.cells #[.int .i64 xk,.int .i64 xf,.int .i64 xt,.string ⟨xx.toArray⟩,.slice xA n xc,.slice xB m xd] 29):=⟨_,rfl⟩
 have hz1:W1.heap.size=W.heap.size+1:=by rw[hW1];simp
 have hB1:Below W.heap.size W W1:=by rw[hW1];exact below1 W _
 have hO1:Own W1 W.heap.size 29 #[.int .i64 xk,.int .i64 xf,.int .i64 xt,.string ⟨xx.toArray⟩,.slice xA n xc,.slice xB m xd]:=by rw[hW1];exact Own.fresh W _ _
 have HO:=hid (fun w (hb:Below W1.heap.size W1 w)=>hO1.stay hb (by omega))
 have HWW:=hid (fun w (hb:Below W1.heap.size W1 w)=>hB1.trans (hb.mono hB1.size))
 have HNM:=hid h7
 have HVL:=hid h8
 have HVS:=hid h9
 have HIH:=hid ih
 have HW4:=hid w4
 have HW1:=hid hW1
 have HBB:=hid (show Below W1.heap.size W1 (W.alloc (.cells #[.int .i64 xk,.int .i64 xf,.int .i64 xt,.string ⟨xx.toArray⟩,.slice xA n xc,.slice xB m xd] 29)) by rw[hW1];exact Below.refl _ _)
 clear hv h7 h8 h9 ih w4 hB1 hO1 hW1 e0 w2 hw
 show Calls Tryz.prog 17 #[.agg #[.int .i64 xk,.int .i64 xf,.int .i64 xt,.string ⟨xx.toArray⟩,.slice xA n xc,.slice xB m xd]] W _
 go_enter Tryz.func17,Tryz.ntmps17
 go_wp2
 go_loopw [12] (fun i wr=>RelTw W1 names i wr) (fun i _=>names.length-(intOf i).toNat)
 case atStart=>exact ⟨0,Nat.zero_le _,rfl,by simp,HBB.out⟩
 case round =>
   obtain ⟨k,hk,rfl,hnd,hb⟩:=hrel
   have hk9:(k:Int)≤100000:=by omega
   by_cases hlt:k<names.length
   ·have q2:(k:Int)<m:=by omega
    have q3:(k:Int)≤xd:=by omega
    obtain ⟨nb,no,rfl,hnb,hc⟩:=nam_cell (HNM.out.below (HWW.out wr hb)) hlt
    obtain ⟨s1,hs1⟩:∃ s1:ByteArray,s1=⟨(names.getD k []).toArray⟩:=⟨_,rfl⟩
    rw[← hs1] at hc
    have HS1:=hid hs1.symm
    clear hs1
    have hoc:=HO.out wr hb
    have z5:wr.cell? ⟨W.heap.size,5,none⟩=some (.slice (some ⟨nb,no,none⟩) m xd):=hoc.at 5
    have HND:=hid hnd
    have HB:=hid hb
    have HC:=hid (fun (i:Nat) (hi:i<names.length)=>show W.cell? ⟨nb,no+i,none⟩=some (.string ⟨(names.getD i []).toArray⟩) from by
      obtain ⟨nb',no',e',_,hc'⟩:=nam_cell HNM.out hi
      injection e' with e'
      injection e' with e1 e2
      subst e1 e2
      exact hc')
    have HNB:=hid (show nb<W.heap.size from by
      obtain ⟨nb',no',e',h',_⟩:=nam_cell HNM.out hlt
      injection e' with e'
      injection e' with e1 e2
      subst e1 e2
      exact h')
    clear hnd hb hoc hnb
    go_wp2
    go_loopw [22] (fun j w=>RelTx W1 names k j w) (fun j _=>k-(intOf j).toNat)
    case atStart=>exact ⟨0,Nat.zero_le _,rfl,(fun r h=>absurd h (Nat.not_lt_zero r)),HB.out⟩
    case round =>
      obtain ⟨i,hi,rfl,hno,hb⟩:=hrel
      have hi9:(i:Int)≤100000:=by omega
      by_cases hil:i<k
      rotate_left
      ·have p2:¬ (i:Int)<k:=by omega
       have HN:=hid (show RelTw W1 names (.int .i64 ((k+1:Nat):Int)) wr from by
         have e:i=k:=by omega
         subst e
         exact ⟨i+1,hlt,rfl,dup_snoc hlt HND.out hno,hb⟩)
       clear hno hb
       go_wp2
       go_roundw
       case rel=>exact HN.out
       case measure=>simp[intOf]<;>omega
      have p2:(i:Int)<k:=by omega
      obtain ⟨s2,hs2⟩:∃ s2:ByteArray,s2=⟨(names.getD i []).toArray⟩:=⟨_,rfl⟩
      have hci:wr.cell? ⟨nb,no+i,none⟩=some (.string s2):=by
       rw[hs2]
       exact ((HWW.out wr hb).cell (p:=⟨nb,no+i,none⟩) HNB.out).trans (HC.out i (by omega))
      have hq:=name_beq (names.getD k []) ⟨(names.getD i []).toArray⟩
      rw[HS1.out,← hs2] at hq
      by_cases he:names.getD k []=names.getD i []
      ·rw[decide_eq_true (show names.getD k []=s2.data.toList from by rw[hs2];exact he)] at hq
       have HF:=hid (show (!decide names.Nodup||twiceL items)=true by rw[decide_eq_false (dup_no hlt hil he.symm)];rfl)
       have HE:=hid (HWW.out wr hb)
       clear hno hb he hs2
       go_wp2
       go_ret
       exact ⟨ret_b HF.out.symm,HE.out⟩
      ·rw [decide_eq_false (show ¬ names.getD k []=s2.data.toList from by rw[hs2];exact he)] at hq
       have HN:=hid (show RelTx W1 names k (.int .i64 ((i+1:Nat):Int)) wr from ⟨i+1,hil,rfl,(fun r hr=>by
         by_cases e:r=i
         ·subst e;exact fun e'=>he e'.symm
         ·exact hno r (by omega)),hb⟩)
       clear hno hb he hs2
       go_wp2
       go_roundw
       case rel=>exact HN.out
       case measure=>simp[intOf]<;>omega
   ·have q2:¬ (k:Int)<m:=by omega
    have HDD:=hid (show names.Nodup by rw[List.take_of_length_le (by omega)] at hnd;exact hnd)
    have hoc:=HO.out wr hb
    have z4:wr.cell? ⟨W.heap.size,4,none⟩=some (.slice xA n xc):=hoc.at 4
    have HB:=hid hb
    clear hnd hb hoc
    go_wp2
    go_loopw [34] (fun j w=>RelTy W1 items j w) (fun j _=>items.length-(intOf j).toNat)
    case atStart=>exact ⟨0,Nat.zero_le _,rfl,by rw[List.take_zero];rfl,HB.out⟩
    case round =>
      obtain ⟨j,hj,rfl,hno,hb⟩:=hrel
      have hj9:(j:Int)≤100000:=by omega
      by_cases hjl:j<items.length
      rotate_left
      ·have p2:¬ (j:Int)<n:=by omega
       have HF:=hid (show (!decide names.Nodup||twiceL items)=false by
         rw[List.take_of_length_le (by omega)] at hno
         rw[decide_eq_true HDD.out,hno]
         rfl)
       have HE:=hid (HWW.out _ hb)
       clear hno hb
       go_wp2
       go_ret
       exact ⟨ret_b HF.out.symm,HE.out⟩
      have p2:(j:Int)<n:=by omega
      have hbW:=HWW.out wr hb
      have hxj:j<xs.length:=by omega
      obtain ⟨x2,hx2,hv2⟩:=HVS.out.at j items[j] (List.getElem?_eq_getElem hjl)
      have r8:=HVL.out.below hbW
      obtain ⟨ab,ao,rfl,hab,_⟩:=r8.2 (by omega)
      have cc:∀ r u,(valK.enc x2)[r]?=some u→wr.cell? ⟨ab,ao+(j*6+r),none⟩=some u:=fun r u hu=>r8.at rfl hx2 (j:=r) (u:=u) hu
      obtain ⟨yk,yf,yt,yx,yA,yn,yc,yB,ym,yd⟩:=x2
      have c0:wr.cell? ⟨ab,ao+j*6,none⟩=some (.int .i64 yk):=cc 0 _ rfl
      have c1:wr.cell? ⟨ab,ao+j*6+1,none⟩=some (.int .i64 yf):=by rw[Nat.add_assoc];exact cc 1 _ rfl
      have c2:wr.cell? ⟨ab,ao+j*6+2,none⟩=some (.int .i64 yt):=by rw[Nat.add_assoc];exact cc 2 _ rfl
      have c3:wr.cell? ⟨ab,ao+j*6+3,none⟩=some (.string ⟨yx.toArray⟩):=by rw[Nat.add_assoc];exact cc 3 _ rfl
      have c4:wr.cell? ⟨ab,ao+j*6+4,none⟩=some (.slice yA yn yc):=by rw[Nat.add_assoc];exact cc 4 _ rfl
      have c5:wr.cell? ⟨ab,ao+j*6+5,none⟩=some (.slice yB ym yd):=by rw[Nat.add_assoc];exact cc 5 _ rfl
      have HB2:=hid (hb.trans ((below1 wr (.cells #[.int .i64 yk,.int .i64 yf,.int .i64 yt,.string ⟨yx.toArray⟩,.slice yA yn yc,.slice yB ym yd] 29)).mono hb.size))
      have KI:=hid (HIH.out items[j] (List.getElem_mem hjl) ⟨yk,yf,yt,yx,yA,yn,yc,yB,ym,yd⟩ (wr.alloc (.cells #[.int .i64 yk,.int .i64 yf,.int .i64 yt,.string ⟨yx.toArray⟩,.slice yA yn yc,.slice yB ym yd] 29)) (hv2.stay (HWW.out _ HB2.out)) (HW4.out _ (List.getElem_mem hjl)))
      have HNO:=hid hno
      have HJ:=hid (List.take_succ_eq_append_getElem hjl)
      have HIN:=hid (List.getElem_mem hjl)
      clear hno hb hbW r8 cc hv2 hx2 hxj
      generalize items[j]=u at *
      cases htw:twiceT u
      ·rw[htw] at KI
       have HN2:=hid (show twiceL (items.take (j+1))=false by rw[HJ.out,twiceL_snoc,HNO.out,htw];rfl)
       clear htw
       go_wp2_with (go_at_call 17;refine KI.out.mono ?_;rintro e w5 ⟨rfl,hb5⟩;have HN:=hid (show RelTy W1 items (.int .i64 ((j+1:Nat):Int)) w5 from ⟨j+1,hjl,rfl,HN2.out,HB2.out.trans (hb5.mono HB2.out.size)⟩);clear hb5)
       go_roundw
       case rel=>exact HN.out
       case measure=>simp[intOf]<;>omega
      ·rw[htw] at KI
       have HF:=hid (show (!decide names.Nodup||twiceL items)=true by rw[twiceL_yes items u HIN.out htw,Bool.or_true])
       clear htw
       go_wp2_with (go_at_call 17;refine KI.out.mono ?_;rintro e w5 ⟨rfl,hb5⟩;have HE:=hid (HWW.out _ (HB2.out.trans (hb5.mono HB2.out.size)));clear hb5)
       go_ret
       exact ⟨ret_b HF.out.symm,HE.out⟩
mutual
theorem rtwice_any:∀ t:Tree,TwR t
 | .mk kd fr td tx items names=>rtwice_of _ (rtwices_any items)
theorem rtwices_any:∀ ts:List Tree,∀ u∈ts,TwR u
 | [],u,h=>by cases h
 | t :: ts,u,h=>by
   by_cases e:u=t
   ·rw[e];exact rtwice_any t
   ·exact rtwices_any ts u (by rcases List.mem_cons.1 h with h|h;exact absurd h e;exact h)
end
end
end Go.Proofs.YtnokhgfifbkflaaGreat
