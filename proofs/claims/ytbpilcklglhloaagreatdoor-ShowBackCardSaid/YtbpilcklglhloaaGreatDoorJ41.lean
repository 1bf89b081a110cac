/- Lemmas. -/
import Derived.Test.YtbpilcklglhloaaGreatDoorJ23
import Derived.StillTailTactics
import Derived.BigRegion
import Derived.Deep.RegionWith
import Derived.Deep.CutRange
set_option maxRecDepth 100000
set_option maxHeartbeats 8000000
set_option linter.unusedVariables false
namespace Go.Proofs.YtbpilcklglhloaaGreatDoor
open Go.Lib (hid)
section
open Go.RowKit
def openK:RowK (Addr×Nat) where
 T:=80
 S:=73
 n:=2
 bytes:=16
 zero:=.agg #[.pointer none,.int .i64 0]
 enc:=fun a=>[.pointer (some a.1),.int .i64 a.2]
 pos:=by decide
 len:=fun _=>rfl
 one:=fun s u h=>by
   simp at h
   rcases h with rfl|rfl<;>rfl
 under:=Tryz.underlying73
 info:=by kernel_rfl
 zlen:=rfl
 small:=by decide
def FW (N:Nat)(v:Value)(k:Nat):Prop:=N≤k∧v.ownBlock≠some k
structure WI (N:Nat) (w:World) (b:Nat) (ln:Bool) (out:List UInt8) (v:Value) (fl:List (Addr×Nat)):Prop where
 bld:BldW ⟨ln,v⟩ w b (FW N v) out
 opn:GRow openK w N v fl
 low:N≤w.heap.size
section
variable {N:Nat} {w w':World} {b:Nat} {ln:Bool} {out out':List UInt8} {v:Value} {fl:List (Addr×Nat)}
theorem WI.wrote (h:WI N w b ln out v fl) (hB:BldW ⟨ln,v⟩ w' b (fun k=>FW N v k∨w.heap.size≤k) out') (ht:Touch (FW N v) w w'):WI N w' b ln out' v fl∧Below N w w':=by
 have hlow:=h.low
 refine ⟨⟨hB.mono (fun k hk => ?_),h.opn.stay (fun g e=>ht.block g (h.opn.low e).2 (fun hf=>hf.2 e)),Nat.le_trans h.low ht.size⟩,ht.below (fun k _ hk=>hk.1) h.low⟩
 rcases hk with hk|hk
 ·exact hk
 ·exact ⟨by omega,fun e=>by have:=(h.opn.low e).2;omega⟩
theorem WI.stay (h:WI N w b ln out v fl) (hb:Below w.heap.size w w'):WI N w' b ln out v fl :=
 ⟨h.bld.stay (G:=fun k=>w.heap.size≤k) (Touch.of_below hb (fun k _ h=>h)) (fun k hk _ e=>by omega),h.opn.stay (fun g e=>hb.block g (h.opn.low e).2),Nat.le_trans h.low hb.size⟩
theorem WI.own (h:WI N w b ln out v fl):∃ p u,Own w b 75 #[p,u,.bool ln,v]∧FW N v b:=by
 obtain ⟨p,u,hp,ho,hr,hb,hg⟩:=h.bld
 exact ⟨p,u,ho,hb⟩
theorem WI.facts (h:WI N w b ln out v fl):w.cell? ⟨b,2,none⟩=some (.bool ln)∧w.cell? ⟨b,3,none⟩=some v∧w.frozen? ⟨b,3,none⟩=false∧b<w.heap.size∧N≤b:=by
 obtain ⟨p,u,ho,hb⟩:=h.own
 exact ⟨ho.at 2,ho.at 3,ho.free 3,ho.inside,hb.1⟩
theorem WI.form (h:WI N w b ln out v fl):∃ A c,v=.slice A fl.length c∧fl.length≤c∧c≤maxLen:=by
 obtain ⟨A,c,e,h1,h2,_⟩:=h.opn.form
 exact ⟨A,c,e,h1,h2⟩
theorem WI.byte (h:WI N w b ln out v fl) (hlen:out.length≤100000000000000) (c:UInt8) (x:Int) (hx:(c.toNat:Int)=x) :
   Calls Tryz.prog 39 #[.pointer (some ⟨b,0,none⟩),.int .u8 x] w fun e w'=>e=.returned .nilIface∧WI N w' b ln (out++[c]) v fl∧Below N w w':=by
 subst hx
 refine (writeByteW_any b _ out c w h.bld (by omega)).mono ?_
 rintro e w' ⟨rfl,hB,ht⟩
 exact ⟨rfl,h.wrote hB ht⟩
theorem WI.str (h:WI N w b ln out v fl) (s:ByteArray) (l:List UInt8) (hs:s.data.toList=l) (hlen:out.length+l.length≤100000000000000) :
   Calls Tryz.prog 40 #[.pointer (some ⟨b,0,none⟩),.string s] w fun e w'=>e=.returned (.tuple #[.int .i64 l.length,.nilIface])∧WI N w' b ln (out++l) v fl∧Below N w w':=by
 subst hs
 refine (writeStringW_any b _ out s w h.bld (by show out.length+s.data.toList.length≤_;omega)).mono ?_
 rintro e w' ⟨rfl,hB,ht⟩
 exact ⟨rfl,h.wrote hB ht⟩
theorem WI.opens {v':Value} {fl':List (Addr×Nat)} {w1:World} (h:WI N w b ln out v fl) (hw:∀ k,k<w.heap.size→v.ownBlock≠some k→w1.heap[k]?=w.heap[k]?) (hos:w1.os=w.os∧w1.tape=w.tape∧w1.output=w.output) (hsz:w.heap.size≤w1.heap.size)
   (hr:GRow openK w1 N v' fl') (hat:∀ k,v'.ownBlock=some k→v.ownBlock=some k∨w.heap.size≤k) :
   WI N (w1.setCell ⟨b,3,none⟩ v') b ln out v' fl'∧Below N w (w1.setCell ⟨b,3,none⟩ v'):=by
 obtain ⟨p,u,hp,ho,hrow,hb,hg⟩:=h.bld
 have hin:=ho.inside
 have hlow:=h.low
 have hne:v'.ownBlock≠some b:=fun e=>by
   rcases hat b e with q|q
   ·exact hb.2 q
   ·omega
 have o1:Own w1 b 75 #[p,u,.bool ln,v]:=(hw b hin hb.2).trans ho
 have hset:∀ k,k≠b→(w1.setCell ⟨b,3,none⟩ v').heap[k]?=w1.heap[k]?:=fun k hk=>Below.heap_setCell w1 _ _ k hk
 have hlt:=hrow.lt
 refine ⟨⟨⟨p,u,hp,by have:=o1.put 3 v';simpa using this,?_,⟨hb.1,hne⟩,fun g e=>⟨⟨(hg g e).1.1,fun e2 => ?_⟩,(hg g e).2⟩⟩,?_,?_⟩,?_⟩
 ·refine ⟨hrow.1,?_⟩
  rcases hrow.2 with hn|⟨g,c,cur,fz,rfl,hbg,hgg,rest⟩
  ·exact .inl hn
  ·have e:=hg g (by simp[Value.ownBlock])
   exact .inr ⟨g,c,cur,fz,rfl,hbg,((hset g e.2).trans (hw g (Array.getElem?_eq_some_iff.1 hgg).1 e.1.2)).trans hgg,rest⟩
 ·rcases hat g e2 with q|q
  ·exact (hg g e).1.2 q
  ·have:=(hlt g e).2;omega
 ·exact hr.stay (fun g e=>hset g (fun q=>hne (q▸e)))
 ·show N≤(w1.setCell ⟨b,3,none⟩ v').heap.size
  simp[World.setCell]
  omega
 ·refine ⟨hos.1,hos.2.1,hos.2.2,?_,fun k hk => ?_⟩
  ·simp[World.setCell];exact hsz
  ·have hbN:=hb.1
   exact (hset k (by omega)).trans (hw k (by omega) (fun e=>by have:=(h.opn.low e).1;omega))
end
def PtIs (W0:World)(p:Addr)(t:Tree):Prop:=∃ x,CellsAt W0 p x∧VIs W0 t x
theorem WI.drew {N:Nat}{w:World}{b:Nat}{ln:Bool}{out:List UInt8}{v:Value}{fl:List (Addr×Nat)}(h:WI N w b ln out v fl):WI N w.drew b ln out v fl:=h.stay (Below.refl _ _).drew
theorem PtIs.cells {W0 w:World} {p:Addr} {kd:Int} {fr to':Nat} {tx:List UInt8} {items:List Tree} {names:List (List UInt8)} (h:PtIs W0 p (.mk kd fr to' tx items names)) (hb:Below W0.heap.size W0 w) :
   ∃ (pb po:Nat) (A:Option Addr) (c:Nat) (B:Option Addr) (d:Nat) (xs:List V6),p=⟨pb,po,none⟩∧w.cell? ⟨pb,po,none⟩=some (.int .i64 kd)∧w.cell? ⟨pb,po+3,none⟩=some (.string ⟨tx.toArray⟩) ∧
     w.cell? ⟨pb,po+4,none⟩=some (.slice A items.length c)∧w.cell? ⟨pb,po+5,none⟩=some (.slice B names.length d)∧items.length≤c∧names.length≤d ∧
     RdG namK w B names.length names∧RdG valK W0 A items.length xs∧VLs W0 items xs:=by
 obtain ⟨x,hx,hv⟩:=h
 have hm:=hv.many
 have hc:=hx.below hb
 unfold VIs at hv
 obtain ⟨h1,h2,h3,h4,h5,h6,h7,xs,h8,h9⟩:=hv
 obtain ⟨pb,po,rfl,hlt,hcell⟩:=hc
 have c0:=hcell 0 _ rfl
 have c3:=hcell 3 _ rfl
 have c4:=hcell 4 _ rfl
 have c5:=hcell 5 _ rfl
 rw[h1] at c0
 rw[h4] at c3
 rw[hm.1] at c4 h5 h8
 rw[hm.2] at c5 h6 h7
 exact ⟨pb,po,x.A,x.c,x.B,x.d,xs,rfl,c0,c3,c4,c5,h5,h6,h7.below hb,h8,h9⟩
theorem PtIs.item {W0:World} {A:Option Addr} {m:Nat} {items:List Tree} {xs:List V6} (h:RdG valK W0 A m xs) (hl:VLs W0 items xs) {i:Nat} {u:Tree} (hu:items[i]?=some u):∃ b o:Nat,A=some ⟨b,o,none⟩∧PtIs W0 ⟨b,o+i*6,none⟩ u:=by
 obtain ⟨x,hx,hv⟩:=hl.at i u hu
 obtain ⟨b,o,e,hc⟩:=h.item hx
 exact ⟨b,o,e,x,hc,hv⟩
end
section
open Go.RowKit
def nlT (ln:Bool)(n:Nat):List UInt8:=if ln then newL n else []
def WrP (N:Nat) (w:World) (b:Nat) (ln:Bool) (out:List UInt8) (v:Value) (fl:List (Addr×Nat)) (e:Ending) (w':World):Prop :=
 e=.returned (.tuple #[])∧WI N w' b ln out v fl∧Below N w w'
theorem line_no {N:Nat} {w:World} {b:Nat} {out:List UInt8} {v:Value} {fl:List (Addr×Nat)} (h:WI N w b false out v fl) :
   Calls Tryz.prog 43 #[.pointer (some ⟨b,0,none⟩)] w (WrP N w b false (out++nlT false (2*fl.length)) v fl):=by
 obtain ⟨c2,c3,f3,hin,hN⟩:=h.facts
 have H:=hid h
 clear h
 go_enter Tryz.func43,Tryz.ntmps43
 go_wp2
 go_end0
 refine ⟨rfl,?_,Below.refl _ _⟩
 have:=H.out
 unfold nlT
 simpa using this
def RelLn (N:Nat) (W:World) (b:Nat) (out:List UInt8) (v:Value) (fl:List (Addr×Nat)) (wr:World) (a:Value):Prop :=
 ∃ j:Nat,j≤fl.length∧a=.int .i64 j∧WI N wr b true (out++newL (2*j)) v fl∧Below N W wr
theorem newL_two (j:Nat):newL (2*j)++[32,32]=newL (2*(j+1)):=by
 unfold newL
 rw[show 2*(j+1)=2*j+1+1 by omega,List.replicate_succ',List.replicate_succ']
 simp
theorem newL_length (n:Nat):(newL n).length=n+1:=by simp[newL]
theorem line_yes {N:Nat} {w:World} {b:Nat} {out:List UInt8} {v:Value} {fl:List (Addr×Nat)} (h:WI N w b true out v fl) (hlen:out.length≤10000000000000) (hfl:fl.length≤1000000) :
   Calls Tryz.prog 43 #[.pointer (some ⟨b,0,none⟩)] w (WrP N w b true (out++nlT true (2*fl.length)) v fl):=by
 obtain ⟨c2,c3,f3,hin,hN⟩:=h.facts
 obtain ⟨A,c,rfl,hmc,hcm⟩:=h.form
 have H:=hid h
 obtain ⟨m,hm⟩:∃ m,fl.length=m:=⟨_,rfl⟩
 have HM:=hid hm
 have hml:m≤1000000:=by omega
 rw[hm] at c3 hmc
 clear h hfl
 go_enter Tryz.func43,Tryz.ntmps43
 go_wp2_with (
   go_at_call 39
   go_must (
     refine (H.out.byte (by omega) 10 10 rfl).mono ?_
     rintro e w1 ⟨rfl,h1,hb1⟩
     obtain ⟨d2,d3,g3,hin1,_⟩:=h1.facts
     rw[HM.out] at d3
     have H1:=hid (And.intro h1 hb1)
     clear h1 hb1))
 go_loopw [16] (fun a wr=>RelLn N w b out (.slice A fl.length c) fl wr a) (fun a _=>m-(intOf a).toNat)
 case atStart=>exact ⟨0,Nat.zero_le _,rfl,H1.out.1,H1.out.2⟩
 case round =>
   obtain ⟨j,hj,rfl,hw,hbw⟩:=hrel
   have hj:j≤m:=by rw[← HM.out];exact hj
   obtain ⟨d2',d3',g3',hin',_⟩:=hw.facts
   rw[HM.out] at d3'
   have HW:=hid hw
   have HBW:=hid hbw
   clear hw hbw
   by_cases hlt:j<m
   ·go_wp2_with (
      go_at_call 40
      go_must (
        refine (HW.out.str ⟨#[32,32]⟩ [32,32] rfl (by rw[List.length_append,newL_length];simp;omega)).mono ?_
        rintro e w2 ⟨rfl,h2,hb2⟩
        rw[List.append_assoc,newL_two] at h2
        have H2:=hid (And.intro h2 (HBW.out.trans hb2))
        clear h2 hb2))
    go_roundw
    case rel=>exact ⟨j+1,(by rw[HM.out];omega),(by go_num),H2.out.1,H2.out.2⟩
    case measure=>simp[intOf];omega
   ·have hjm:j=m:=by omega
    subst hjm
    go_wp2
    go_end0
    have e:nlT true (2*fl.length)=newL (2*j):=by unfold nlT;rw[if_pos rfl,HM.out]
    exact ⟨rfl,by rw[e];exact HW.out,HBW.out⟩
theorem line_any {N:Nat} {w:World} {b:Nat} {ln:Bool} {out:List UInt8} {v:Value} {fl:List (Addr×Nat)} (h:WI N w b ln out v fl) (hlen:out.length≤10000000000000) (hfl:fl.length≤1000000) :
   Calls Tryz.prog 43 #[.pointer (some ⟨b,0,none⟩)] w (WrP N w b ln (out++nlT ln (2*fl.length)) v fl):=by
 cases ln
 ·exact line_no h
 ·exact line_yes h hlen hfl
def nameTx (ln:Bool)(nm:List UInt8):List UInt8:=strT nm++58 :: (if ln then [32] else [])
theorem putStr_of (l:List UInt8) (hl:l.length≤1000000000) (w:World):Calls Tryz.prog 41 #[.string ⟨l.toArray⟩] w fun e w'=>e=.returned (.string ⟨(strT l).toArray⟩)∧Below w.heap.size w w' :=
 (put_any ⟨l.toArray⟩ w hl).mono fun e w' h=>h
theorem name_any {W0 w:World} {b:Nat} {ln:Bool} {out:List UInt8} {v:Value} {fl:List (Addr×Nat)} (h:WI W0.heap.size w b ln out v fl) (hb0:Below W0.heap.size W0 w) {p:Addr} {kd:Int} {fr to':Nat} {tx:List UInt8} {items:List Tree} {names:List (List UInt8)}
   (hp:PtIs W0 p (.mk kd fr to' tx items names)) (i:Nat) (nm:List UInt8) (hnm:names[i]?=some nm) (hl:nm.length≤1000000000) (hlen:out.length+(strT nm).length≤10000000000000) :
   Calls Tryz.prog 44 #[.pointer (some ⟨b,0,none⟩),.pointer (some p),.int .i64 i] w (WrP W0.heap.size w b ln (out++nameTx ln nm) v fl):=by
 obtain ⟨pb,po,A,c,B,d,xs,rfl,q0,q3,q4,q5,l4,l5,hN,_,_⟩:=hp.cells hb0
 obtain ⟨c2,c3,f3,hin,hNb⟩:=h.facts
 have hi:i<names.length:=(List.getElem?_eq_some_iff.1 hnm).1
 obtain ⟨nb,no,rfl,hnb,hcell⟩:=hN.2 (by omega)
 have hq:=hN.at rfl hnm (j:=0) (u:=.string ⟨nm.toArray⟩) rfl
 simp[namK] at hq
 obtain ⟨n,hn⟩:∃ n,names.length=n:=⟨_,rfl⟩
 rw[hn] at q5 l5 hi
 have H:=hid h.drew
 obtain ⟨k,hk⟩:∃ k,(strT nm).length=k:=⟨_,rfl⟩
 have HL:=hid (show out.length+k≤10000000000000 by omega)
 have HK:=hid hk
 have HP:=hid (fun w=>putStr_of nm hl w)
 clear h hcell hN hb0 hp hlen hk hn hl
 have tok:True:=trivial
 go_enter Tryz.func44,Tryz.ntmps44
 go_upto_region 3 with fail
 first | (go_region_with (first
   | (go_at_call 41
      go_must (
        refine (HP.out _).mono ?_
        rintro e w1 ⟨rfl,hb1⟩
        have h1:=H.out.stay hb1
        have hb1':Below W0.heap.size w w1:=(Below.refl _ _).drew.trans (hb1.mono H.out.low)
        have H1:=hid (And.intro h1 hb1')
        clear h1 hb1 hb1'))
   | (go_at_call 40
      go_must (
        refine (H1.out.1.str ⟨(strT nm).toArray⟩ (strT nm) rfl (by rw[HK.out];have:=HL.out;omega)).mono ?_
        rintro e w2 ⟨rfl,h2,hb2⟩
        have H2:=hid (And.intro h2 (H1.out.2.trans hb2))
        clear h2 hb2))))|fail
 all_goals
   cases ln
 all_goals
   go_wp2_with (first
     | (go_at_call 39
        clear tok
        go_must (
          refine (H2.out.1.byte (by rw[List.length_append,HK.out];have:=HL.out;omega) 58 58 rfl).mono ?_
          rintro e w3 ⟨rfl,h3,hb3⟩
          obtain ⟨d2,d3,g3,hin3,_⟩:=h3.facts
          have H3:=hid (And.intro h3 (H2.out.2.trans hb3))
          clear h3 hb3))
     | (go_at_call 39
        go_must (
          refine (H3.out.1.byte (by simp only [List.length_append,HK.out];have:=HL.out;simp;omega) 32 32 rfl).mono ?_
          rintro e w4 ⟨rfl,h4,hb4⟩
          have H4:=hid (And.intro h4 (H3.out.2.trans hb4))
          clear h4 hb4)))
   go_end0
   first
     | (have:=H4.out
        exact ⟨rfl,by unfold nameTx;simpa [List.append_assoc] using this.1,this.2⟩)
     | (have:=H3.out
        exact ⟨rfl,by unfold nameTx;simpa [List.append_assoc] using this.1,this.2⟩)
end
section
open Go.RowKit
def txtT (ln:Bool)(d:Nat)(t:Tree):List UInt8:=if ln then lineT d t else showT t
def headT (t:Tree):List UInt8:=if t.kd=4 then [91] else if t.kd=5 then [123] else if t.kd=3 then strT t.tx else t.tx
def WrO (N:Nat) (w:World) (b:Nat) (ln:Bool) (out:List UInt8) (fl:List (Addr×Nat)) (e:Ending) (w':World):Prop :=
 ∃ v',e=.returned (.tuple #[])∧WI N w' b ln out v' fl∧Below N w w'
theorem open_rd (w:World) (p:Addr) (g:Nat) (hg:g=w.heap.size):RdG openK (w.alloc (.cells #[.pointer (some p),.int .i64 0] 80)) (some ⟨g,0,none⟩) 1 [(p,0)]:=by
 subst hg
 exact (GRow.made (K:=openK) (base:=0) (l:=[(p,0)]) w _ rfl (show 1≤maxLen by decide) (Nat.zero_le _)).rd
end
section
open Go.RowKit
theorem begin_str {W0 w:World} {b:Nat} {ln:Bool} {out:List UInt8} {v:Value} {fl:List (Addr×Nat)} (h:WI W0.heap.size w b ln out v fl) (hb0:Below W0.heap.size W0 w) {p:Addr} {fr to':Nat} {tx:List UInt8} {items:List Tree} {names:List (List UInt8)}
   (hp:PtIs W0 p (.mk 3 fr to' tx items names)) (hl:tx.length≤1000000000) (hlen:out.length+(strT tx).length≤10000000000000) :
   Calls Tryz.prog 25 #[.pointer (some ⟨b,0,none⟩),.pointer (some p)] w (WrO W0.heap.size w b ln (out++strT tx) fl):=by
 obtain ⟨pb,po,A,c,B,d,xs,rfl,q0,q3,q4,q5,l4,l5,hN,_,_⟩:=hp.cells hb0
 obtain ⟨c2,c3,f3,hin,hNb⟩:=h.facts
 have H:=hid h.drew
 obtain ⟨k,hk⟩:∃ k,(strT tx).length=k:=⟨_,rfl⟩
 have HL:=hid (show out.length+k≤10000000000000 by omega)
 have HK:=hid hk
 have HP:=hid (fun w=>putStr_of tx hl w)
 clear hN l4 l5 q4 q5 hb0 hp h hlen hk hl
 go_enter Tryz.func25,Tryz.ntmps25
 have q3d:World.cell? { heap:=w.heap,tape:=w.tape,drawn:=w.drawn+1,os:=w.os,output:=w.output } ⟨pb,po+3,none⟩=some (.string ⟨tx.toArray⟩):=q3
 go_upto_region 9 with fail
 first | (go_region_with (first
   | (go_at_call 41
      go_must (
        refine (HP.out _).mono ?_
        rintro e w1 ⟨rfl,hb1⟩
        have h1:=H.out.stay hb1
        have hb1':Below W0.heap.size w w1:=(Below.refl _ _).drew.trans (hb1.mono H.out.low)
        have H1:=hid (And.intro h1 hb1')
        clear h1 hb1 hb1'))
   | (go_at_call 40
      go_must (
        refine (H1.out.1.str ⟨(strT tx).toArray⟩ (strT tx) rfl (by rw[HK.out];have:=HL.out;omega)).mono ?_
        rintro e w2 ⟨rfl,h2,hb2⟩
        have H2:=hid (And.intro h2 (H1.out.2.trans hb2))
        clear h2 hb2))))|fail
 all_goals
   go_wp2
   go_end0
   exact ⟨_,rfl,H2.out⟩
theorem begin_plain {W0 w:World} {b:Nat} {ln:Bool} {out:List UInt8} {v:Value} {fl:List (Addr×Nat)} (h:WI W0.heap.size w b ln out v fl) (hb0:Below W0.heap.size W0 w) {p:Addr} {kd:Int} {fr to':Nat} {tx:List UInt8} {items:List Tree} {names:List (List UInt8)}
   (hp:PtIs W0 p (.mk kd fr to' tx items names)) (h3:kd≠3) (h4:kd≠4) (h5:kd≠5) (hlen:out.length+tx.length≤10000000000000) :
   Calls Tryz.prog 25 #[.pointer (some ⟨b,0,none⟩),.pointer (some p)] w (WrO W0.heap.size w b ln (out++tx) fl):=by
 obtain ⟨pb,po,A,c,B,d,xs,rfl,q0,q3,q4,q5,l4,l5,hN,_,_⟩:=hp.cells hb0
 obtain ⟨c2,c3,f3,hin,hNb⟩:=h.facts
 have H:=hid h.drew
 obtain ⟨k,hk⟩:∃ k,tx.length=k:=⟨_,rfl⟩
 have HL:=hid (show out.length+k≤10000000000000 by omega)
 have HK:=hid hk
 have e3:(kd==3)=false:=beq_eq_false_iff_ne.2 h3
 have e4:(kd==4)=false:=beq_eq_false_iff_ne.2 h4
 have e5:(kd==5)=false:=beq_eq_false_iff_ne.2 h5
 clear hN l4 l5 q4 q5 hb0 hp h hlen hk h3 h4 h5
 go_enter Tryz.func25,Tryz.ntmps25
 have q3d:World.cell? { heap:=w.heap,tape:=w.tape,drawn:=w.drawn+1,os:=w.os,output:=w.output } ⟨pb,po+3,none⟩=some (.string ⟨tx.toArray⟩):=q3
 go_upto_region 1 with fail
 go_still_tail 7,(by kernel_rfl)
 change wpList _ _ _ _ _ w.drew
 go_wp2_with (
   go_at_call 40
   go_must (
     refine (H.out.str ⟨tx.toArray⟩ tx rfl (by rw[HK.out];have:=HL.out;omega)).mono ?_
     rintro e w2 ⟨rfl,h2,hb2⟩
     have H2:=hid (And.intro h2 ((Below.refl _ _).drew.trans hb2))
     clear h2 hb2))
 go_end0
 exact ⟨_,rfl,H2.out⟩
end
section
open Go.RowKit
theorem begin_arr {W0 w:World} {b:Nat} {ln:Bool} {out:List UInt8} {v:Value} {fl:List (Addr×Nat)} (h:WI W0.heap.size w b ln out v fl) (hb0:Below W0.heap.size W0 w) {p:Addr} {fr to':Nat} {tx:List UInt8} {items:List Tree} {names:List (List UInt8)}
   (hp:PtIs W0 p (.mk 4 fr to' tx items names)) (hlen:out.length≤10000000000000) (hfl:fl.length≤1000000) :
   Calls Tryz.prog 25 #[.pointer (some ⟨b,0,none⟩),.pointer (some p)] w (WrO W0.heap.size w b ln (out++[91]) (fl++[(p,0)])):=by
 obtain ⟨pb,po,A,c,B,d,xs,rfl,q0,q3,q4,q5,l4,l5,hN,_,_⟩:=hp.cells hb0
 obtain ⟨A0,c0,rfl,hmc,hcm⟩:=h.form
 obtain ⟨m,hm⟩:∃ m,fl.length=m:=⟨_,rfl⟩
 have HM:=hid hm
 have HF:=hid hfl
 have H:=hid h
 clear hN l4 l5 q3 q4 q5 hb0 hp hm hfl hmc
 have HB:=hid (h.byte (by omega) 91 91 rfl)
 clear h hlen
 go_enter Tryz.func25,Tryz.ntmps25
 go_wp2_with (first
   | (go_at_call 39
      go_must (
        refine HB.out.mono ?_
        rintro e w1 ⟨rfl,h1,hb1⟩
        have h2:=h1.stay (below1 w1 (.cells #[.pointer (some ⟨pb,po,none⟩),.int .i64 0] 80))
        obtain ⟨d2,d3,g3,hin1,hN1⟩:=h1.facts
        rw[HM.out] at d3
        have H1:=hid (And.intro h1 (And.intro hb1 h2))
        have NEW:=hid (open_rd w1 ⟨pb,po,none⟩ w1.heap.size rfl)
        clear h1 hb1 h2))
   | (at_builtin
      go_must (
        refine row_append (K:=openK) _ rfl (.tmp 26) (.tmp 29) rfl W0.heap.size (.slice A0 m c0) fl rfl (HM.out▸H1.out.2.2.opn) _ 1 1 [(⟨pb,po,none⟩,0)] rfl NEW.out (by have:=HF.out;omega) H1.out.2.2.low ?_
        intro v5 w5 hr5 hg5 hat5
        obtain ⟨A5,c5,e5,_⟩:=hr5.form
        obtain ⟨n5,hn5⟩:∃ n5,(fl++[((⟨pb,po,none⟩:Addr),0)]).length=n5:=⟨_,rfl⟩
        rw[hn5] at e5
        subst e5
        rw[← HM.out] at hg5 hat5
        obtain ⟨p9,u9,o9,hf9⟩:=H1.out.2.2.own
        have o5:Own w5 b 75 #[p9,u9,.bool ln,.slice A0 fl.length c0]:=(hg5.block b o9.inside (fun e=>hf9.2 e.symm)).trans o9
        have y3:=o5.at 3
        have z3:=o5.free 3
        simp at y3
        have hop:=H1.out.2.2.opens (w1:=w5) (fun k hk hne=>hg5.block k hk (fun e=>hne e.symm)) ⟨hg5.os,hg5.tape,hg5.output⟩ hg5.size hr5 (fun k hk=>by
          rcases hat5 with q|q
          ·rw[q] at hk;exact .inl hk
          ·rw[q] at hk;have:=Option.some.inj hk;exact .inr (by omega))
        have HO:=hid (And.intro hop.1 ((H1.out.2.1.trans ((below1 w1 (.cells #[.pointer (some ⟨pb,po,none⟩),.int .i64 0] 80)).mono H1.out.1.low)).trans hop.2))
        clear hr5 hg5 hat5 o9 hf9 o5 hop hn5)))
 go_end0
 exact ⟨_,rfl,HO.out⟩
theorem begin_obj {W0 w:World} {b:Nat} {ln:Bool} {out:List UInt8} {v:Value} {fl:List (Addr×Nat)} (h:WI W0.heap.size w b ln out v fl) (hb0:Below W0.heap.size W0 w) {p:Addr} {fr to':Nat} {tx:List UInt8} {items:List Tree} {names:List (List UInt8)}
   (hp:PtIs W0 p (.mk 5 fr to' tx items names)) (hlen:out.length≤10000000000000) (hfl:fl.length≤1000000) :
   Calls Tryz.prog 25 #[.pointer (some ⟨b,0,none⟩),.pointer (some p)] w (WrO W0.heap.size w b ln (out++[123]) (fl++[(p,0)])):=by
 obtain ⟨pb,po,A,c,B,d,xs,rfl,q0,q3,q4,q5,l4,l5,hN,_,_⟩:=hp.cells hb0
 obtain ⟨A0,c0,rfl,hmc,hcm⟩:=h.form
 obtain ⟨m,hm⟩:∃ m,fl.length=m:=⟨_,rfl⟩
 have HM:=hid hm
 have HF:=hid hfl
 have H:=hid h
 clear hN l4 l5 q3 q4 q5 hb0 hp hm hfl hmc
 have HB:=hid (h.byte (by omega) 123 123 rfl)
 clear h hlen
 go_enter Tryz.func25,Tryz.ntmps25
 go_wp2_with (first
   | (go_at_call 39
      go_must (
        refine HB.out.mono ?_
        rintro e w1 ⟨rfl,h1,hb1⟩
        have h2:=h1.stay (below1 w1 (.cells #[.pointer (some ⟨pb,po,none⟩),.int .i64 0] 80))
        obtain ⟨d2,d3,g3,hin1,hN1⟩:=h1.facts
        rw[HM.out] at d3
        have H1:=hid (And.intro h1 (And.intro hb1 h2))
        have NEW:=hid (open_rd w1 ⟨pb,po,none⟩ w1.heap.size rfl)
        clear h1 hb1 h2))
   | (at_builtin
      go_must (
        refine row_append (K:=openK) _ rfl (.tmp 43) (.tmp 46) rfl W0.heap.size (.slice A0 m c0) fl rfl (HM.out▸H1.out.2.2.opn) _ 1 1 [(⟨pb,po,none⟩,0)] rfl NEW.out (by have:=HF.out;omega) H1.out.2.2.low ?_
        intro v5 w5 hr5 hg5 hat5
        obtain ⟨A5,c5,e5,_⟩:=hr5.form
        obtain ⟨n5,hn5⟩:∃ n5,(fl++[((⟨pb,po,none⟩:Addr),0)]).length=n5:=⟨_,rfl⟩
        rw[hn5] at e5
        subst e5
        rw[← HM.out] at hg5 hat5
        obtain ⟨p9,u9,o9,hf9⟩:=H1.out.2.2.own
        have o5:Own w5 b 75 #[p9,u9,.bool ln,.slice A0 fl.length c0]:=(hg5.block b o9.inside (fun e=>hf9.2 e.symm)).trans o9
        have y3:=o5.at 3
        have z3:=o5.free 3
        simp at y3
        have hop:=H1.out.2.2.opens (w1:=w5) (fun k hk hne=>hg5.block k hk (fun e=>hne e.symm)) ⟨hg5.os,hg5.tape,hg5.output⟩ hg5.size hr5 (fun k hk=>by
          rcases hat5 with q|q
          ·rw[q] at hk;exact .inl hk
          ·rw[q] at hk;have:=Option.some.inj hk;exact .inr (by omega))
        have HO:=hid (And.intro hop.1 ((H1.out.2.1.trans ((below1 w1 (.cells #[.pointer (some ⟨pb,po,none⟩),.int .i64 0] 80)).mono H1.out.1.low)).trans hop.2))
        clear hr5 hg5 hat5 o9 hf9 o5 hop hn5)))
 go_end0
 exact ⟨_,rfl,HO.out⟩
end
section
open Go.RowKit
def closeT (ln:Bool)(d:Nat)(any obj:Bool):List UInt8:=(if any then nlT ln (2*d) else [])++[if obj then 125 else 93]
theorem own_len (A:Option Addr)(n m c:Nat):(Value.slice A n c).ownBlock=(Value.slice A m c).ownBlock:=by cases A<;>rfl
theorem nlT_length (ln:Bool) (n:Nat):(nlT ln n).length≤n+1:=by
 unfold nlT
 split
 ·rw[newL_length];exact Nat.le_refl _
 ·exact Nat.zero_le _
theorem end_4 {W0 w:World} {b:Nat} {ln:Bool} {out:List UInt8} {v:Value} {fl:List (Addr×Nat)} {q:Addr×Nat} (h:WI W0.heap.size w b ln out v (fl++[q])) (hb0:Below W0.heap.size W0 w) {p:Addr} {fr to':Nat} {tx:List UInt8} {items:List Tree} {names:List (List UInt8)}
   (hp:PtIs W0 p (.mk 4 fr to' tx items names)) (hlen:out.length≤1000000000000) (hfl:fl.length≤1000000) :
   Calls Tryz.prog 42 #[.pointer (some ⟨b,0,none⟩),.pointer (some p)] w (WrO W0.heap.size w b ln (out++closeT ln fl.length (decide (0<items.length)) false) fl):=by
 obtain ⟨A0,c0,rfl,hmc,hcm⟩:=h.form
 obtain ⟨m,hm⟩:∃ m,(fl++[q]).length=m:=⟨_,rfl⟩
 obtain ⟨m0,hm0⟩:∃ m0,fl.length=m0:=⟨_,rfl⟩
 have hmm:m=m0+1:=by rw[← hm,← hm0];simp
 obtain ⟨c2,c3,f3,hin,hNb⟩:=h.facts
 rw[hm] at c3 hmc
 have hs0:(0:Int)≤(m0:Int):=by omega
 have hs1:(m0:Int)≤(c0:Int):=by omega
 have hsw:IntKind.i64.wrap (m0:Int)=(m0:Int):=by rw[IntKind.wrap_i64];unfold maxLen at hcm;omega
 have hcut:GRow openK w.drew W0.heap.size (.slice A0 m0 c0) fl:=by
   have:=h.opn.cut (k:=m0) (by simp[hm0])
   rw[← hm0,List.take_left' rfl,hm0] at this
   exact this
 have hop:=h.drew.opens (w1:=w.drew) (v':=.slice A0 m0 c0) (fl':=fl) (fun k _ _=>rfl) ⟨rfl,rfl,rfl⟩ (Nat.le_refl _) hcut (fun k hk=>.inl ((own_len A0 m0 (fl++[q]).length c0).symm.trans hk))
 have c3d:World.cell? { heap:=w.heap,tape:=w.tape,drawn:=w.drawn+1,os:=w.os,output:=w.output } ⟨b,3,none⟩=some (.slice A0 m c0):=c3
 have HM:=hid hm0
 have HF:=hid (show m0≤1000000 by omega)
 have HL:=hid hlen
 have HO:=hid hop
 have HP:=hid hp
 have HB0:=hid hb0
 clear h hm hcut hop hm0 hfl hlen hp hb0
 go_enter Tryz.func42,Tryz.ntmps42
 go_wp2
 go_still_tail 14,(by kernel_rfl)
 change wpList _ _ _ _ _ w.drew
 go_upto_region 1 with fail
 change Code.wp _ _ _ _ (w.drew.setCell ⟨b,3,none⟩ (.slice A0 m0 c0))
 have hA:=HO.out.1
 have hbA:Below W0.heap.size w (w.drew.setCell ⟨b,3,none⟩ (.slice A0 m0 c0)):=(Below.refl _ _).drew.trans HO.out.2
 clear HO c2 c3 f3 hs0 hs1 hsw c3d
 generalize w.drew.setCell ⟨b,3,none⟩ (.slice A0 m0 c0)=wA at hA hbA ⊢
 obtain ⟨pb,po,A,c,B,d,xs,rfl,q0,q3,q4,q5,l4,l5,hN,_,_⟩:=HP.out.cells (HB0.out.trans hbA)
 have HPA:=hid (HP.out)
 obtain ⟨n0,hn0⟩:∃ n0,items.length=n0:=⟨_,rfl⟩
 rw[hn0] at q4 l4
 have HN0:=hid hn0
 clear hN q5 l5 q3 hn0
 by_cases h0:0<n0
 ·have HLN:=hid (line_any hA (by have:=HL.out;omega) (by rw[HM.out];exact HF.out))
  have HBA:=hid hbA
  clear hA hbA
  go_wp2_with (first
    | (go_at_call 43
       go_must (
         refine HLN.out.mono ?_
         rintro e w1 ⟨rfl,h1,hb1⟩
         obtain ⟨_,_,_,_,_,_,_,e9,r0,_⟩:=HPA.out.cells (HB0.out.trans (HBA.out.trans hb1))
         injection e9 with e9a e9b
         subst e9a e9b
         have H1:=hid (And.intro h1 (HBA.out.trans hb1))
         clear h1 hb1))
    | (go_at_call 39
       go_must (
         refine (H1.out.1.byte (by rw[List.length_append,HM.out];have:=HL.out;have:=HF.out;have:=nlT_length ln (2*m0);omega) 93 93 rfl).mono ?_
         rintro e w2 ⟨rfl,h2,hb2⟩
         have H2:=hid (And.intro h2 (H1.out.2.trans hb2))
         clear h2 hb2)))
  go_end0
  have e:closeT ln fl.length (decide (0<items.length)) false=nlT ln (2*fl.length)++[93]:=by
    unfold closeT
    rw[HN0.out,decide_eq_true h0]
    rfl
  refine ⟨.slice A0 m0 c0,rfl,?_,H2.out.2⟩
  rw[e,← List.append_assoc]
  exact H2.out.1
 ·obtain rfl:n0=0:=by omega
  have HA:=hid hA
  have HBA:=hid hbA
  clear hA hbA
  go_wp2_with (
    go_at_call 39
    go_must (
      refine (HA.out.byte (by have:=HL.out;omega) 93 93 rfl).mono ?_
      rintro e w2 ⟨rfl,h2,hb2⟩
      have H2:=hid (And.intro h2 (HBA.out.trans hb2))
      clear h2 hb2))
  go_end0
  have e:closeT ln fl.length (decide (0<items.length)) false=[93]:=by
    unfold closeT
    rw[HN0.out]
    rfl
  refine ⟨.slice A0 m0 c0,rfl,?_,H2.out.2⟩
  rw[e]
  exact H2.out.1
theorem end_5 {W0 w:World} {b:Nat} {ln:Bool} {out:List UInt8} {v:Value} {fl:List (Addr×Nat)} {q:Addr×Nat} (h:WI W0.heap.size w b ln out v (fl++[q])) (hb0:Below W0.heap.size W0 w) {p:Addr} {fr to':Nat} {tx:List UInt8} {items:List Tree} {names:List (List UInt8)}
   (hp:PtIs W0 p (.mk 5 fr to' tx items names)) (hlen:out.length≤1000000000000) (hfl:fl.length≤1000000) :
   Calls Tryz.prog 42 #[.pointer (some ⟨b,0,none⟩),.pointer (some p)] w (WrO W0.heap.size w b ln (out++closeT ln fl.length (decide (0<items.length)) true) fl):=by
 obtain ⟨A0,c0,rfl,hmc,hcm⟩:=h.form
 obtain ⟨m,hm⟩:∃ m,(fl++[q]).length=m:=⟨_,rfl⟩
 obtain ⟨m0,hm0⟩:∃ m0,fl.length=m0:=⟨_,rfl⟩
 have hmm:m=m0+1:=by rw[← hm,← hm0];simp
 obtain ⟨c2,c3,f3,hin,hNb⟩:=h.facts
 rw[hm] at c3 hmc
 have hs0:(0:Int)≤(m0:Int):=by omega
 have hs1:(m0:Int)≤(c0:Int):=by omega
 have hsw:IntKind.i64.wrap (m0:Int)=(m0:Int):=by rw[IntKind.wrap_i64];unfold maxLen at hcm;omega
 have hcut:GRow openK w.drew W0.heap.size (.slice A0 m0 c0) fl:=by
   have:=h.opn.cut (k:=m0) (by simp[hm0])
   rw[← hm0,List.take_left' rfl,hm0] at this
   exact this
 have hop:=h.drew.opens (w1:=w.drew) (v':=.slice A0 m0 c0) (fl':=fl) (fun k _ _=>rfl) ⟨rfl,rfl,rfl⟩ (Nat.le_refl _) hcut (fun k hk=>.inl ((own_len A0 m0 (fl++[q]).length c0).symm.trans hk))
 have c3d:World.cell? { heap:=w.heap,tape:=w.tape,drawn:=w.drawn+1,os:=w.os,output:=w.output } ⟨b,3,none⟩=some (.slice A0 m c0):=c3
 have HM:=hid hm0
 have HF:=hid (show m0≤1000000 by omega)
 have HL:=hid hlen
 have HO:=hid hop
 have HP:=hid hp
 have HB0:=hid hb0
 clear h hm hcut hop hm0 hfl hlen hp hb0
 go_enter Tryz.func42,Tryz.ntmps42
 go_wp2
 go_still_tail 14,(by kernel_rfl)
 change wpList _ _ _ _ _ w.drew
 go_upto_region 1 with fail
 change Code.wp _ _ _ _ (w.drew.setCell ⟨b,3,none⟩ (.slice A0 m0 c0))
 have hA:=HO.out.1
 have hbA:Below W0.heap.size w (w.drew.setCell ⟨b,3,none⟩ (.slice A0 m0 c0)):=(Below.refl _ _).drew.trans HO.out.2
 clear HO c2 c3 f3 hs0 hs1 hsw c3d
 generalize w.drew.setCell ⟨b,3,none⟩ (.slice A0 m0 c0)=wA at hA hbA ⊢
 obtain ⟨pb,po,A,c,B,d,xs,rfl,q0,q3,q4,q5,l4,l5,hN,_,_⟩:=HP.out.cells (HB0.out.trans hbA)
 have HPA:=hid (HP.out)
 obtain ⟨n0,hn0⟩:∃ n0,items.length=n0:=⟨_,rfl⟩
 rw[hn0] at q4 l4
 have HN0:=hid hn0
 clear hN q5 l5 q3 hn0
 by_cases h0:0<n0
 ·have HLN:=hid (line_any hA (by have:=HL.out;omega) (by rw[HM.out];exact HF.out))
  have HBA:=hid hbA
  clear hA hbA
  go_wp2_with (first
    | (go_at_call 43
       go_must (
         refine HLN.out.mono ?_
         rintro e w1 ⟨rfl,h1,hb1⟩
         obtain ⟨_,_,_,_,_,_,_,e9,r0,_⟩:=HPA.out.cells (HB0.out.trans (HBA.out.trans hb1))
         injection e9 with e9a e9b
         subst e9a e9b
         have H1:=hid (And.intro h1 (HBA.out.trans hb1))
         clear h1 hb1))
    | (go_at_call 39
       go_must (
         refine (H1.out.1.byte (by rw[List.length_append,HM.out];have:=HL.out;have:=HF.out;have:=nlT_length ln (2*m0);omega) 125 125 rfl).mono ?_
         rintro e w2 ⟨rfl,h2,hb2⟩
         have H2:=hid (And.intro h2 (H1.out.2.trans hb2))
         clear h2 hb2)))
  go_end0
  have e:closeT ln fl.length (decide (0<items.length)) true=nlT ln (2*fl.length)++[125]:=by
    unfold closeT
    rw[HN0.out,decide_eq_true h0]
    rfl
  refine ⟨.slice A0 m0 c0,rfl,?_,H2.out.2⟩
  rw[e,← List.append_assoc]
  exact H2.out.1
 ·obtain rfl:n0=0:=by omega
  have HA:=hid hA
  have HBA:=hid hbA
  clear hA hbA
  go_wp2_with (
    go_at_call 39
    go_must (
      refine (HA.out.byte (by have:=HL.out;omega) 125 125 rfl).mono ?_
      rintro e w2 ⟨rfl,h2,hb2⟩
      have H2:=hid (And.intro h2 (HBA.out.trans hb2))
      clear h2 hb2))
  go_end0
  have e:closeT ln fl.length (decide (0<items.length)) true=[125]:=by
    unfold closeT
    rw[HN0.out]
    rfl
  refine ⟨.slice A0 m0 c0,rfl,?_,H2.out.2⟩
  rw[e]
  exact H2.out.1
theorem end_shw {W0 w:World} {b:Nat} {ln:Bool} {out:List UInt8} {v:Value} {fl:List (Addr×Nat)} {q:Addr×Nat} (h:WI W0.heap.size w b ln out v (fl++[q])) (hb0:Below W0.heap.size W0 w) {p:Addr} {kd:Int} {fr to':Nat} {tx:List UInt8} {items:List Tree} {names:List (List UInt8)}
   (hp:PtIs W0 p (.mk kd fr to' tx items names)) (hk:kd=4∨kd=5) (hlen:out.length≤1000000000000) (hfl:fl.length≤1000000) :
   Calls Tryz.prog 42 #[.pointer (some ⟨b,0,none⟩),.pointer (some p)] w (WrO W0.heap.size w b ln (out++closeT ln fl.length (decide (0<items.length)) (decide (kd=5))) fl):=by
 rcases hk with rfl|rfl
 ·exact end_4 h hb0 hp hlen hfl
 ·exact end_5 h hb0 hp hlen hfl
end
section
open Go.RowKit
section
variable {α:Type} {K:RowK α} {w w':World} {base:Nat} {v:Value} {l:List α}
theorem all_setW:∀ (l:List α) (i j:Nat) (a:α) (u:Value) (b:α),l[i]?=some b→j<K.n→K.enc a=(K.enc b).set j u→K.all (l.set i a)=(K.all l).set (i*K.n+j) u
 | [],i,j,a,u,b,h,_,_=>by cases h
 | x :: t,0,j,a,u,b,h,hj,he=>by
   obtain rfl:x=b:=by simpa using h
   show K.enc a++K.all t=(K.enc x++K.all t).set (0*K.n+j) u
   rw[Nat.zero_mul,Nat.zero_add,List.set_append_left _ _ (by rw[K.len];exact hj),he]
 | x :: t,i+1,j,a,u,b,h,hj,he=>by
   show K.enc x++K.all (t.set i a)=(K.enc x++K.all t).set ((i+1)*K.n+j) u
   rw[List.set_append_right _ _ (by rw[K.len,Nat.add_mul];omega),K.len,all_setW t i j a u b (by simpa using h) hj he]
   congr 2
   rw[Nat.add_mul]
   omega
theorem GRow.putW {g m c i j:Nat} {a b:α} {u:Value} (h:GRow K w base (.slice (some ⟨g,0,none⟩) m c) l) (hi:l[i]?=some b) (hj:j<K.n) (hu:K.enc a=(K.enc b).set j u) :
   GRow K (w.setCell ⟨g,i*K.n+j,none⟩ u) base (.slice (some ⟨g,0,none⟩) m c) (l.set i a):=by
 unfold GRow at h ⊢
 rw[List.length_set,all_setW l i j a u b hi hj hu]
 refine ⟨by rw[List.length_set];exact h.1,?_⟩
 rcases h.2 with ⟨hv,h0⟩|⟨g',c',cur,hv,hb,hg,g1,g2,g3,g4⟩
 ·cases hv
 ·injection hv with hA hm hc
  injection hA with hA
  injection hA with hA
  subst hA
  refine .inr ⟨g,c',cur.setIfInBounds (i*K.n+j) u,by rw[hm,hc],hb,?_,g1,g2,by simpa using g3,?_⟩
  ·simp[World.setCell,Array.getElem?_modify,hg]
  ·rw[Array.toList_setIfInBounds,List.take_set,g4]
end
section
variable {N:Nat} {w:World} {b:Nat} {ln:Bool} {out:List UInt8} {g M c:Nat} {fl:List (Addr×Nat)} {p:Addr} {i:Nat}
theorem WI.top (h:WI N w b ln out (.slice (some ⟨g,0,none⟩) M c) (fl++[(p,i)])) {m0:Nat} (hm:fl.length=m0) :
   w.cell? ⟨g,m0*2,none⟩=some (.pointer (some p))∧w.cell? ⟨g,m0*2+1,none⟩=some (.int .i64 i)∧w.frozen? ⟨g,m0*2+1,none⟩=false∧g≠b:=by
 have ha:(fl++[(p,i)])[m0]?=some (p,i):=by rw[← hm];simp
 have hr:=h.opn.rd
 have h0:=hr.at rfl ha (j:=0) (u:=.pointer (some p)) rfl
 have h1:=hr.at rfl ha (j:=1) (u:=.int .i64 i) rfl
 simp only [Nat.zero_add] at h0 h1
 obtain ⟨q,u,ho,hf⟩:=h.own
 exact ⟨h0,h1,h.opn.free _,fun e=>hf.2 (by rw[← e];simp[Value.ownBlock])⟩
theorem WI.bump (h:WI N w b ln out (.slice (some ⟨g,0,none⟩) M c) (fl++[(p,i)])) {m0:Nat} (hm:fl.length=m0) :
   WI N (w.setCell ⟨g,m0*2+1,none⟩ (.int .i64 ((i:Int)+1))) b ln out (.slice (some ⟨g,0,none⟩) M c) (fl++[(p,i+1)])∧Below N w (w.setCell ⟨g,m0*2+1,none⟩ (.int .i64 ((i:Int)+1))):=by
 have ha:(fl++[(p,i)])[m0]?=some (p,i):=by rw[← hm];simp
 have hg:(Value.slice (some ⟨g,0,none⟩) M c).ownBlock=some g:=by simp[Value.ownBlock]
 have hr:=h.opn.putW (i:=m0) (j:=1) (a:=(p,i+1)) (b:=(p,i)) (u:=.int .i64 ((i:Int)+1)) ha (by decide) rfl
 have hs:(fl++[(p,i)]).set m0 (p,i+1)=fl++[(p,i+1)]:=by rw[← hm];simp
 rw[hs] at hr
 have hNg:=(h.opn.low hg).1
 refine ⟨⟨h.bld.stay (G:=fun k=>k=g) (Touch.setCell (F:=fun k=>k=g) (Touch.refl _ w) (p:=⟨g,m0*2+1,none⟩) (.inl rfl) _) (fun k _ hf e=>hf.2 (by rw[e];exact hg)),hr,?_⟩,?_⟩
 ·simp[World.setCell];exact h.low
 ·exact (Below.refl N w).setCell hNg _
end
theorem WI.open_form {N:Nat} {w:World} {b:Nat} {ln:Bool} {out:List UInt8} {v:Value} {fl:List (Addr×Nat)} {q:Addr×Nat} (h:WI N w b ln out v (fl++[q])):∃ g c,v=.slice (some ⟨g,0,none⟩) (fl++[q]).length c:=by
 obtain ⟨A,c,e,_,_,hA⟩:=h.opn.form
 obtain ⟨g,hg,_⟩:=hA (by simp)
 exact ⟨g,c,by rw[e,hg]⟩
theorem nameTx_length (ln:Bool) (nm:List UInt8):(nameTx ln nm).length≤(strT nm).length+2:=by
 unfold nameTx
 cases ln<;>simp
def pushT (p:Addr)(t:Tree):List (Addr×Nat):=if t.kd=4∨t.kd=5 then [(p,0)] else []
theorem begin_any {W0 w:World} {b:Nat} {ln:Bool} {out:List UInt8} {v:Value} {fl:List (Addr×Nat)} (h:WI W0.heap.size w b ln out v fl) (hb0:Below W0.heap.size W0 w) {p:Addr} {t:Tree}
   (hp:PtIs W0 p t) (hl:t.tx.length≤1000000000) (hh:(headT t).length≤100000000000) (hlen:out.length≤1000000000000) (hfl:fl.length≤1000000) :
   Calls Tryz.prog 25 #[.pointer (some ⟨b,0,none⟩),.pointer (some p)] w (WrO W0.heap.size w b ln (out++headT t) (fl++pushT p t)):=by
 obtain ⟨kd,fr,to',tx,items,names⟩:=t
 by_cases h4:kd=4
 ·subst h4
  exact begin_arr h hb0 hp (by omega) hfl
 by_cases h5:kd=5
 ·subst h5
  exact begin_obj h hb0 hp (by omega) hfl
 have e1:pushT p (.mk kd fr to' tx items names)=[]:=if_neg (by show ¬ (kd=4∨kd=5);omega)
 rw[e1,List.append_nil]
 by_cases h3:kd=3
 ·subst h3
  have e:headT (.mk 3 fr to' tx items names)=strT tx:=rfl
  rw[e] at hh
  have hs:out.length+(strT tx).length≤10000000000000:=by omega
  exact begin_str h hb0 hp hl hs
 ·have e2:headT (.mk kd fr to' tx items names)=tx:=by unfold headT;show (if kd=4 then _ else if kd=5 then _ else if kd=3 then _ else tx)=tx;rw[if_neg h4,if_neg h5,if_neg h3]
  rw[e2]
  exact begin_plain h hb0 hp h3 h4 h5 (by have hl:tx.length≤1000000000:=hl;omega)
theorem val_cells {W0 w:World} {pb po:Nat} {x:V6} (hc:CellsAt W0 ⟨pb,po,none⟩ x) (hb:Below W0.heap.size W0 w):w.cell? ⟨pb,po,none⟩=some (.int .i64 x.kd)∧w.cell? ⟨pb,po+4,none⟩=some (.slice x.A x.n x.c):=by
 obtain ⟨b,o,e,hlt,h⟩:=hc.below hb
 injection e with e1 e2
 subst e1 e2
 exact ⟨h 0 _ rfl,h 4 _ rfl⟩
set_option maxHeartbeats 16000000 in
theorem goOn_end4 {W0 w:World} {b:Nat} {ln:Bool} {out:List UInt8} {g M c:Nat} {fl:List (Addr×Nat)} {p:Addr} {m0:Nat} (hm:fl.length=m0) {fr to':Nat} {tx:List UInt8} {items:List Tree} {names:List (List UInt8)}
   (h:WI W0.heap.size w b ln out (.slice (some ⟨g,0,none⟩) M c) (fl++[(p,items.length)])) (hb0:Below W0.heap.size W0 w) (hp:PtIs W0 p (.mk 4 fr to' tx items names)) (hlen:out.length≤100000000000) (hfl:fl.length≤900000) :
   Calls Tryz.prog 26 #[.pointer (some ⟨b,0,none⟩),.pointer (some ⟨g,m0*2,none⟩)] w (WrO W0.heap.size w b ln (out++closeT ln fl.length (decide (0<items.length)) (decide ((4:Int)=5))) fl):=by
 obtain ⟨pb,po,A,c1,B,d,xs,rfl,q0,q3,q4,q5,l4,l5,hN,_,_⟩:=hp.cells hb0
 obtain ⟨t0,t1,t2,t3⟩:=h.top hm
 have HE:=hid (end_shw h hb0 hp (.inl rfl) (by omega) (by omega))
 obtain ⟨n,hn⟩:∃ n,items.length=n:=⟨_,rfl⟩
 rw[hn] at q4 l4 t1
 clear hN l5 q5 q3 hb0 hp h hn hlen hfl hm
 go_enter Tryz.func26,Tryz.ntmps26
 go_wp2_with (
   go_at_call 42
   go_must (
     refine HE.out.mono ?_
     rintro e w2 ⟨v',rfl,h2⟩
     have H2:=hid h2
     clear h2))
 first|go_end0|(refine bodyPost_ret (results_none rfl _ _ _) rfl ?_)|skip
 exact ⟨v',rfl,H2.out⟩
set_option maxHeartbeats 16000000 in
theorem goOn_40 {W0 w:World} {b:Nat} {ln:Bool} {out:List UInt8} {g M c:Nat} {fl:List (Addr×Nat)} {p:Addr} {m0:Nat} (hm:fl.length=m0) {fr to':Nat} {tx:List UInt8} {items:List Tree} {names:List (List UInt8)} {i:Nat}
   (h:WI W0.heap.size w b ln out (.slice (some ⟨g,0,none⟩) M c) (fl++[(p,i)])) (hb0:Below W0.heap.size W0 w) (hp:PtIs W0 p (.mk 4 fr to' tx items names)) (hlen:out.length≤100000000000) (hfl:fl.length≤900000)
   (hi:¬ 0<i) (u:Tree) (hu:items[i]?=some u) (hl:u.tx.length≤1000000000) (hh:(headT u).length≤100000000000) (hn3:items.length≤1000000000) :
   Calls Tryz.prog 26 #[.pointer (some ⟨b,0,none⟩),.pointer (some ⟨g,m0*2,none⟩)] w fun e w' => ∃ pu,PtIs W0 pu u∧WrO W0.heap.size w b ln (out++nlT ln (2*(fl++[(p,i+1)]).length)++headT u) (fl++[(p,i+1)]++pushT pu u) e w':=by
 have hin:i<items.length:=(List.getElem?_eq_some_iff.1 hu).1
 obtain ⟨x,hc,hv⟩:=id hp
 have hm2:=hv.many
 obtain ⟨pb,po,rfl,hpb,_⟩:=id hc
 have hvk:x.kd=4:=by unfold VIs at hv;exact hv.1
 obtain ⟨xs,h8,h9⟩:∃ xs,RdG valK W0 x.A x.n xs∧VLs W0 items xs:=by unfold VIs at hv;obtain ⟨_,_,_,_,_,_,_,xs,h8,h9⟩:=hv;exact ⟨xs,h8,h9⟩
 obtain ⟨ib,io,hA,hpu⟩:=PtIs.item h8 h9 hu
 obtain ⟨t0,t1,t2,t3⟩:=h.top hm
 obtain ⟨q0,q4⟩:=val_cells hc hb0
 obtain ⟨n,hn⟩:∃ n,items.length=n:=⟨_,rfl⟩
 rw[hvk] at q0
 rw[hm2.1,hn,hA] at q4
 rw[hn] at hin hn3
 have hcap:n≤x.c:=by unfold VIs at hv;rw[← hn,← hm2.1];exact hv.2.2.2.2.1
 have hne:((i:Int)==n)=false:=beq_eq_false_iff_ne.2 (by omega)
 have HV:=hid (And.intro hvk (And.intro hA (hm2.1.trans hn)))
 have HC:=hid hc
 have HP:=hid hp
 have HB0:=hid hb0
 have HM:=hid hm
 have HU:=hid (And.intro hpu (And.intro hl hh))
 have HL:=hid hlen
 have HF:=hid hfl
 have HW:=hid (h.bump hm)
 have tok:True:=trivial
 clear hp hb0 hm h hlen hfl hc hv h8 h9 hpu hu hl hh hm2 hn hvk hA hpb
 go_enter Tryz.func26,Tryz.ntmps26
 go_upto_region 4 with fail
 change Code.wp _ _ _ _ (w.setCell ⟨g,m0*2+1,none⟩ (.int .i64 ((i:Int)+1)))
 have h1:=HW.out
 clear HW t0 t1 t2 q0 q4
 generalize w.setCell ⟨g,m0*2+1,none⟩ (.int .i64 ((i:Int)+1))=w1 at h1 ⊢
 have H1:=hid h1
 clear h1
 go_wp2_with (first
   | (go_at_call 43
      go_must (
        refine (line_any H1.out.1 (by have:=HL.out;simp;omega) (by have:=HF.out;simp;omega)).mono ?_
        rintro e w3 ⟨rfl,h3,hb3⟩
        obtain ⟨t03,t13,t23,t33⟩:=h3.top HM.out
        obtain ⟨x03,x43⟩:=val_cells HC.out (HB0.out.trans (H1.out.2.trans hb3))
        rw[HV.out.1] at x03
        rw[HV.out.2.1,HV.out.2.2] at x43
        have H3:=hid (And.intro h3 (H1.out.2.trans hb3))
        clear h3 hb3))
   | (go_at_call 25
      go_must (
        refine (begin_any H3.out.1 (HB0.out.trans H3.out.2) HU.out.1 HU.out.2.1 HU.out.2.2 (by have:=HL.out;have:=HF.out;have:=nlT_length ln (2*(fl++[((⟨pb,po,none⟩:Addr),i+1)]).length);simp at *;omega) (by have:=HF.out;simp;omega)).mono ?_
        rintro e w5 ⟨v',rfl,h5,hb5⟩
        have H5:=hid (And.intro h5 (H3.out.2.trans hb5))
        clear h5 hb5)))
 go_end0
 exact ⟨_,HU.out.1,v',rfl,H5.out⟩
set_option maxHeartbeats 16000000 in
theorem goOn_4s {W0 w:World} {b:Nat} {ln:Bool} {out:List UInt8} {g M c:Nat} {fl:List (Addr×Nat)} {p:Addr} {m0:Nat} (hm:fl.length=m0) {fr to':Nat} {tx:List UInt8} {items:List Tree} {names:List (List UInt8)} {i:Nat}
   (h:WI W0.heap.size w b ln out (.slice (some ⟨g,0,none⟩) M c) (fl++[(p,i)])) (hb0:Below W0.heap.size W0 w) (hp:PtIs W0 p (.mk 4 fr to' tx items names)) (hlen:out.length≤100000000000) (hfl:fl.length≤900000)
   (hi:0<i) (u:Tree) (hu:items[i]?=some u) (hl:u.tx.length≤1000000000) (hh:(headT u).length≤100000000000) (hn3:items.length≤1000000000) :
   Calls Tryz.prog 26 #[.pointer (some ⟨b,0,none⟩),.pointer (some ⟨g,m0*2,none⟩)] w fun e w' => ∃ pu,PtIs W0 pu u∧WrO W0.heap.size w b ln (out++[44]++nlT ln (2*(fl++[(p,i+1)]).length)++headT u) (fl++[(p,i+1)]++pushT pu u) e w':=by
 have hin:i<items.length:=(List.getElem?_eq_some_iff.1 hu).1
 obtain ⟨x,hc,hv⟩:=id hp
 have hm2:=hv.many
 obtain ⟨pb,po,rfl,hpb,_⟩:=id hc
 have hvk:x.kd=4:=by unfold VIs at hv;exact hv.1
 obtain ⟨xs,h8,h9⟩:∃ xs,RdG valK W0 x.A x.n xs∧VLs W0 items xs:=by unfold VIs at hv;obtain ⟨_,_,_,_,_,_,_,xs,h8,h9⟩:=hv;exact ⟨xs,h8,h9⟩
 obtain ⟨ib,io,hA,hpu⟩:=PtIs.item h8 h9 hu
 obtain ⟨t0,t1,t2,t3⟩:=h.top hm
 obtain ⟨q0,q4⟩:=val_cells hc hb0
 obtain ⟨n,hn⟩:∃ n,items.length=n:=⟨_,rfl⟩
 rw[hvk] at q0
 rw[hm2.1,hn,hA] at q4
 rw[hn] at hin hn3
 have hcap:n≤x.c:=by unfold VIs at hv;rw[← hn,← hm2.1];exact hv.2.2.2.2.1
 have hne:((i:Int)==n)=false:=beq_eq_false_iff_ne.2 (by omega)
 have HV:=hid (And.intro hvk (And.intro hA (hm2.1.trans hn)))
 have HC:=hid hc
 have HP:=hid hp
 have HB0:=hid hb0
 have HM:=hid hm
 have HU:=hid (And.intro hpu (And.intro hl hh))
 have HL:=hid hlen
 have HF:=hid hfl
 have HW:=hid (h.bump hm)
 have tok:True:=trivial
 clear hp hb0 hm h hlen hfl hc hv h8 h9 hpu hu hl hh hm2 hn hvk hA hpb
 go_enter Tryz.func26,Tryz.ntmps26
 go_upto_region 4 with fail
 change Code.wp _ _ _ _ (w.setCell ⟨g,m0*2+1,none⟩ (.int .i64 ((i:Int)+1)))
 have h1:=HW.out
 clear HW t0 t1 t2 q0 q4
 generalize w.setCell ⟨g,m0*2+1,none⟩ (.int .i64 ((i:Int)+1))=w1 at h1 ⊢
 have H1:=hid h1
 clear h1
 go_wp2_with (first
   | (go_at_call 39
      go_must (
        refine (H1.out.1.byte (by have:=HL.out;omega) 44 44 rfl).mono ?_
        rintro e w2 ⟨rfl,h2,hb2⟩
        have H2:=hid (And.intro h2 (H1.out.2.trans hb2))
        clear h2 hb2))
   | (go_at_call 43
      go_must (
        refine (line_any H2.out.1 (by have:=HL.out;simp;omega) (by have:=HF.out;simp;omega)).mono ?_
        rintro e w3 ⟨rfl,h3,hb3⟩
        obtain ⟨t03,t13,t23,t33⟩:=h3.top HM.out
        obtain ⟨x03,x43⟩:=val_cells HC.out (HB0.out.trans (H2.out.2.trans hb3))
        rw[HV.out.1] at x03
        rw[HV.out.2.1,HV.out.2.2] at x43
        have H3:=hid (And.intro h3 (H2.out.2.trans hb3))
        clear h3 hb3))
   | (go_at_call 25
      go_must (
        refine (begin_any H3.out.1 (HB0.out.trans H3.out.2) HU.out.1 HU.out.2.1 HU.out.2.2 (by have:=HL.out;have:=HF.out;have:=nlT_length ln (2*(fl++[((⟨pb,po,none⟩:Addr),i+1)]).length);simp at *;omega) (by have:=HF.out;simp;omega)).mono ?_
        rintro e w5 ⟨v',rfl,h5,hb5⟩
        have H5:=hid (And.intro h5 (H3.out.2.trans hb5))
        clear h5 hb5)))
 go_end0
 exact ⟨_,HU.out.1,v',rfl,H5.out⟩
set_option maxHeartbeats 16000000 in
theorem goOn_end5 {W0 w:World} {b:Nat} {ln:Bool} {out:List UInt8} {g M c:Nat} {fl:List (Addr×Nat)} {p:Addr} {m0:Nat} (hm:fl.length=m0) {fr to':Nat} {tx:List UInt8} {items:List Tree} {names:List (List UInt8)}
   (h:WI W0.heap.size w b ln out (.slice (some ⟨g,0,none⟩) M c) (fl++[(p,items.length)])) (hb0:Below W0.heap.size W0 w) (hp:PtIs W0 p (.mk 5 fr to' tx items names)) (hlen:out.length≤100000000000) (hfl:fl.length≤900000) :
   Calls Tryz.prog 26 #[.pointer (some ⟨b,0,none⟩),.pointer (some ⟨g,m0*2,none⟩)] w (WrO W0.heap.size w b ln (out++closeT ln fl.length (decide (0<items.length)) (decide ((5:Int)=5))) fl):=by
 obtain ⟨pb,po,A,c1,B,d,xs,rfl,q0,q3,q4,q5,l4,l5,hN,_,_⟩:=hp.cells hb0
 obtain ⟨t0,t1,t2,t3⟩:=h.top hm
 have HE:=hid (end_shw h hb0 hp (.inr rfl) (by omega) (by omega))
 obtain ⟨n,hn⟩:∃ n,items.length=n:=⟨_,rfl⟩
 rw[hn] at q4 l4 t1
 clear hN l5 q5 q3 hb0 hp h hn hlen hfl hm
 go_enter Tryz.func26,Tryz.ntmps26
 go_wp2_with (
   go_at_call 42
   go_must (
     refine HE.out.mono ?_
     rintro e w2 ⟨v',rfl,h2⟩
     have H2:=hid h2
     clear h2))
 first|go_end0|(refine bodyPost_ret (results_none rfl _ _ _) rfl ?_)|skip
 exact ⟨v',rfl,H2.out⟩
set_option maxHeartbeats 16000000 in
theorem goOn_50 {W0 w:World} {b:Nat} {ln:Bool} {out:List UInt8} {g M c:Nat} {fl:List (Addr×Nat)} {p:Addr} {m0:Nat} (hm:fl.length=m0) {fr to':Nat} {tx:List UInt8} {items:List Tree} {names:List (List UInt8)} {i:Nat}
   (h:WI W0.heap.size w b ln out (.slice (some ⟨g,0,none⟩) M c) (fl++[(p,i)])) (hb0:Below W0.heap.size W0 w) (hp:PtIs W0 p (.mk 5 fr to' tx items names)) (hlen:out.length≤100000000000) (hfl:fl.length≤900000)
   (hi:¬ 0<i) (u:Tree) (hu:items[i]?=some u) (hl:u.tx.length≤1000000000) (hh:(headT u).length≤100000000000) (hn3:items.length≤1000000000) (nm:List UInt8) (hnm:names[i]?=some nm) (hnl:nm.length≤1000000000) (hns:(strT nm).length≤100000000000) :
   Calls Tryz.prog 26 #[.pointer (some ⟨b,0,none⟩),.pointer (some ⟨g,m0*2,none⟩)] w fun e w' => ∃ pu,PtIs W0 pu u∧WrO W0.heap.size w b ln (out++nlT ln (2*(fl++[(p,i+1)]).length)++nameTx ln nm++headT u) (fl++[(p,i+1)]++pushT pu u) e w':=by
 have hin:i<items.length:=(List.getElem?_eq_some_iff.1 hu).1
 obtain ⟨x,hc,hv⟩:=id hp
 have hm2:=hv.many
 obtain ⟨pb,po,rfl,hpb,_⟩:=id hc
 have hvk:x.kd=5:=by unfold VIs at hv;exact hv.1
 obtain ⟨xs,h8,h9⟩:∃ xs,RdG valK W0 x.A x.n xs∧VLs W0 items xs:=by unfold VIs at hv;obtain ⟨_,_,_,_,_,_,_,xs,h8,h9⟩:=hv;exact ⟨xs,h8,h9⟩
 obtain ⟨ib,io,hA,hpu⟩:=PtIs.item h8 h9 hu
 obtain ⟨t0,t1,t2,t3⟩:=h.top hm
 obtain ⟨q0,q4⟩:=val_cells hc hb0
 obtain ⟨n,hn⟩:∃ n,items.length=n:=⟨_,rfl⟩
 rw[hvk] at q0
 rw[hm2.1,hn,hA] at q4
 rw[hn] at hin hn3
 have hcap:n≤x.c:=by unfold VIs at hv;rw[← hn,← hm2.1];exact hv.2.2.2.2.1
 have hne:((i:Int)==n)=false:=beq_eq_false_iff_ne.2 (by omega)
 have HV:=hid (And.intro hvk (And.intro hA (hm2.1.trans hn)))
 have HC:=hid hc
 have HP:=hid hp
 have HB0:=hid hb0
 have HM:=hid hm
 have HU:=hid (And.intro hpu (And.intro hl hh))
 have HL:=hid hlen
 have HF:=hid hfl
 have HN:=hid (And.intro hnm (And.intro hnl hns))
 clear hnm hnl hns
 have HW:=hid (h.bump hm)
 have tok:True:=trivial
 clear hp hb0 hm h hlen hfl hc hv h8 h9 hpu hu hl hh hm2 hn hvk hA hpb
 go_enter Tryz.func26,Tryz.ntmps26
 go_upto_region 4 with fail
 change Code.wp _ _ _ _ (w.setCell ⟨g,m0*2+1,none⟩ (.int .i64 ((i:Int)+1)))
 have h1:=HW.out
 clear HW t0 t1 t2 q0 q4
 generalize w.setCell ⟨g,m0*2+1,none⟩ (.int .i64 ((i:Int)+1))=w1 at h1 ⊢
 have H1:=hid h1
 clear h1
 go_wp2_with (first
   | (go_at_call 43
      go_must (
        refine (line_any H1.out.1 (by have:=HL.out;simp;omega) (by have:=HF.out;simp;omega)).mono ?_
        rintro e w3 ⟨rfl,h3,hb3⟩
        obtain ⟨t03,t13,t23,t33⟩:=h3.top HM.out
        obtain ⟨x03,x43⟩:=val_cells HC.out (HB0.out.trans (H1.out.2.trans hb3))
        rw[HV.out.1] at x03
        rw[HV.out.2.1,HV.out.2.2] at x43
        have H3:=hid (And.intro h3 (H1.out.2.trans hb3))
        clear h3 hb3))
   | (go_at_call 44
      go_must (
        refine (name_any H3.out.1 (HB0.out.trans H3.out.2) HP.out i nm HN.out.1 HN.out.2.1 (by have:=HL.out;have:=HF.out;have:=HN.out.2.2;have:=nlT_length ln (2*(fl++[((⟨pb,po,none⟩:Addr),i+1)]).length);simp at *;omega)).mono ?_
        rintro e w4 ⟨rfl,h4,hb4⟩
        obtain ⟨t04,t14,t24,t34⟩:=h4.top HM.out
        obtain ⟨x04,x44⟩:=val_cells HC.out (HB0.out.trans (H3.out.2.trans hb4))
        rw[HV.out.1] at x04
        rw[HV.out.2.1,HV.out.2.2] at x44
        have H4:=hid (And.intro h4 (H3.out.2.trans hb4))
        clear h4 hb4))
   | (go_at_call 25
      go_must (
        refine (begin_any H4.out.1 (HB0.out.trans H4.out.2) HU.out.1 HU.out.2.1 HU.out.2.2 (by have:=HL.out;have:=HF.out;have:=nlT_length ln (2*(fl++[((⟨pb,po,none⟩:Addr),i+1)]).length);have:=nameTx_length ln nm;have:=HN.out.2.2;simp at *;omega) (by have:=HF.out;simp;omega)).mono ?_
        rintro e w5 ⟨v',rfl,h5,hb5⟩
        have H5:=hid (And.intro h5 (H4.out.2.trans hb5))
        clear h5 hb5)))
 go_end0
 exact ⟨_,HU.out.1,v',rfl,H5.out⟩
set_option maxHeartbeats 16000000 in
theorem goOn_5s {W0 w:World} {b:Nat} {ln:Bool} {out:List UInt8} {g M c:Nat} {fl:List (Addr×Nat)} {p:Addr} {m0:Nat} (hm:fl.length=m0) {fr to':Nat} {tx:List UInt8} {items:List Tree} {names:List (List UInt8)} {i:Nat}
   (h:WI W0.heap.size w b ln out (.slice (some ⟨g,0,none⟩) M c) (fl++[(p,i)])) (hb0:Below W0.heap.size W0 w) (hp:PtIs W0 p (.mk 5 fr to' tx items names)) (hlen:out.length≤100000000000) (hfl:fl.length≤900000)
   (hi:0<i) (u:Tree) (hu:items[i]?=some u) (hl:u.tx.length≤1000000000) (hh:(headT u).length≤100000000000) (hn3:items.length≤1000000000) (nm:List UInt8) (hnm:names[i]?=some nm) (hnl:nm.length≤1000000000) (hns:(strT nm).length≤100000000000) :
   Calls Tryz.prog 26 #[.pointer (some ⟨b,0,none⟩),.pointer (some ⟨g,m0*2,none⟩)] w fun e w' => ∃ pu,PtIs W0 pu u∧WrO W0.heap.size w b ln (out++[44]++nlT ln (2*(fl++[(p,i+1)]).length)++nameTx ln nm++headT u) (fl++[(p,i+1)]++pushT pu u) e w':=by
 have hin:i<items.length:=(List.getElem?_eq_some_iff.1 hu).1
 obtain ⟨x,hc,hv⟩:=id hp
 have hm2:=hv.many
 obtain ⟨pb,po,rfl,hpb,_⟩:=id hc
 have hvk:x.kd=5:=by unfold VIs at hv;exact hv.1
 obtain ⟨xs,h8,h9⟩:∃ xs,RdG valK W0 x.A x.n xs∧VLs W0 items xs:=by unfold VIs at hv;obtain ⟨_,_,_,_,_,_,_,xs,h8,h9⟩:=hv;exact ⟨xs,h8,h9⟩
 obtain ⟨ib,io,hA,hpu⟩:=PtIs.item h8 h9 hu
 obtain ⟨t0,t1,t2,t3⟩:=h.top hm
 obtain ⟨q0,q4⟩:=val_cells hc hb0
 obtain ⟨n,hn⟩:∃ n,items.length=n:=⟨_,rfl⟩
 rw[hvk] at q0
 rw[hm2.1,hn,hA] at q4
 rw[hn] at hin hn3
 have hcap:n≤x.c:=by unfold VIs at hv;rw[← hn,← hm2.1];exact hv.2.2.2.2.1
 have hne:((i:Int)==n)=false:=beq_eq_false_iff_ne.2 (by omega)
 have HV:=hid (And.intro hvk (And.intro hA (hm2.1.trans hn)))
 have HC:=hid hc
 have HP:=hid hp
 have HB0:=hid hb0
 have HM:=hid hm
 have HU:=hid (And.intro hpu (And.intro hl hh))
 have HL:=hid hlen
 have HF:=hid hfl
 have HN:=hid (And.intro hnm (And.intro hnl hns))
 clear hnm hnl hns
 have HW:=hid (h.bump hm)
 have tok:True:=trivial
 clear hp hb0 hm h hlen hfl hc hv h8 h9 hpu hu hl hh hm2 hn hvk hA hpb
 go_enter Tryz.func26,Tryz.ntmps26
 go_upto_region 4 with fail
 change Code.wp _ _ _ _ (w.setCell ⟨g,m0*2+1,none⟩ (.int .i64 ((i:Int)+1)))
 have h1:=HW.out
 clear HW t0 t1 t2 q0 q4
 generalize w.setCell ⟨g,m0*2+1,none⟩ (.int .i64 ((i:Int)+1))=w1 at h1 ⊢
 have H1:=hid h1
 clear h1
 go_wp2_with (first
   | (go_at_call 39
      go_must (
        refine (H1.out.1.byte (by have:=HL.out;omega) 44 44 rfl).mono ?_
        rintro e w2 ⟨rfl,h2,hb2⟩
        have H2:=hid (And.intro h2 (H1.out.2.trans hb2))
        clear h2 hb2))
   | (go_at_call 43
      go_must (
        refine (line_any H2.out.1 (by have:=HL.out;simp;omega) (by have:=HF.out;simp;omega)).mono ?_
        rintro e w3 ⟨rfl,h3,hb3⟩
        obtain ⟨t03,t13,t23,t33⟩:=h3.top HM.out
        obtain ⟨x03,x43⟩:=val_cells HC.out (HB0.out.trans (H2.out.2.trans hb3))
        rw[HV.out.1] at x03
        rw[HV.out.2.1,HV.out.2.2] at x43
        have H3:=hid (And.intro h3 (H2.out.2.trans hb3))
        clear h3 hb3))
   | (go_at_call 44
      go_must (
        refine (name_any H3.out.1 (HB0.out.trans H3.out.2) HP.out i nm HN.out.1 HN.out.2.1 (by have:=HL.out;have:=HF.out;have:=HN.out.2.2;have:=nlT_length ln (2*(fl++[((⟨pb,po,none⟩:Addr),i+1)]).length);simp at *;omega)).mono ?_
        rintro e w4 ⟨rfl,h4,hb4⟩
        obtain ⟨t04,t14,t24,t34⟩:=h4.top HM.out
        obtain ⟨x04,x44⟩:=val_cells HC.out (HB0.out.trans (H3.out.2.trans hb4))
        rw[HV.out.1] at x04
        rw[HV.out.2.1,HV.out.2.2] at x44
        have H4:=hid (And.intro h4 (H3.out.2.trans hb4))
        clear h4 hb4))
   | (go_at_call 25
      go_must (
        refine (begin_any H4.out.1 (HB0.out.trans H4.out.2) HU.out.1 HU.out.2.1 HU.out.2.2 (by have:=HL.out;have:=HF.out;have:=nlT_length ln (2*(fl++[((⟨pb,po,none⟩:Addr),i+1)]).length);have:=nameTx_length ln nm;have:=HN.out.2.2;simp at *;omega) (by have:=HF.out;simp;omega)).mono ?_
        rintro e w5 ⟨v',rfl,h5,hb5⟩
        have H5:=hid (And.intro h5 (H4.out.2.trans hb5))
        clear h5 hb5)))
 go_end0
 exact ⟨_,HU.out.1,v',rfl,H5.out⟩
end
section
open Go.RowKit
theorem strT_le (l:List UInt8):(strT l).length≤6*l.length+2:=by
 have:=putL_len l
 unfold strT
 simp
 omega
def itemsR (ln:Bool) (d:Nat) (obj:Bool):List Tree→List (List UInt8)→Bool→List UInt8
 | [],_,_=>[]
 | u :: r,names,fst=>(if fst then [] else [44])++(nlT ln (2*(d+1))++((if obj then nameTx ln (names.headD []) else [])++(txtT ln (d+1) u++itemsR ln d obj r names.tail false)))
theorem itemsR_more (ln:Bool) (d:Nat) (obj:Bool) (r:List Tree) (names:List (List UInt8)):itemsR ln d obj r names false=if r.isEmpty then [] else 44 :: itemsR ln d obj r names true:=by
 cases r with
 | nil=>rfl
 | cons u r=>rfl
theorem items_showA (d:Nat):∀ (r:List Tree) (names:List (List UInt8)),itemsR false d false r names true=showA r
 | [],names=>by unfold showA;rfl
 | u :: r,names=>by
   unfold showA
   show []++([]++([]++(showT u++itemsR false d false r names.tail false)))=_
   rw[itemsR_more,items_showA d r names.tail]
   rfl
theorem items_showO (d:Nat):∀ (r:List Tree) (names:List (List UInt8)),itemsR false d true r names true=showO r names
 | [],names=>by unfold showO;rfl
 | u :: r,names=>by
   unfold showO
   show []++([]++((strT (names.headD [])++58 :: [])++(showT u++itemsR false d true r names.tail false)))=_
   rw[itemsR_more,items_showO d r names.tail]
   simp
theorem items_lineA (d:Nat):∀ (r:List Tree) (names:List (List UInt8)),itemsR true d false r names true=lineA d r
 | [],names=>by unfold lineA;rfl
 | u :: r,names=>by
   unfold lineA
   show []++(newL (2*(d+1))++([]++(lineT (d+1) u++itemsR true d false r names.tail false)))=_
   rw[itemsR_more,items_lineA d r names.tail]
   rfl
theorem items_lineO (d:Nat):∀ (r:List Tree) (names:List (List UInt8)),itemsR true d true r names true=lineO d r names
 | [],names=>by unfold lineO;rfl
 | u :: r,names=>by
   unfold lineO
   show []++(newL (2*(d+1))++((strT (names.headD [])++58 :: [32])++(lineT (d+1) u++itemsR true d true r names.tail false)))=_
   rw[itemsR_more,items_lineO d r names.tail]
   simp[Nat.mul_add]
def restT (ln:Bool) (d:Nat) (t:Tree) (i:Nat):List UInt8 :=
 itemsR ln d (decide (t.kd=5)) (t.items.drop i) (t.names.drop i) (decide (i=0))++closeT ln d (decide (0<t.items.length)) (decide (t.kd=5))
theorem txt_node (ln:Bool) (d:Nat) (t:Tree) (h:t.kd=4∨t.kd=5):txtT ln d t=headT t++restT ln d t 0:=by
 obtain ⟨kd,fr,to',tx,items,names⟩:=t
 have h:kd=4∨kd=5:=h
 unfold restT closeT txtT
 show (if ln then lineT d (.mk kd fr to' tx items names) else showT (.mk kd fr to' tx items names))=headT (.mk kd fr to' tx items names)++(itemsR ln d (decide (kd=5)) items names true++((if decide (0<items.length) then nlT ln (2*d) else [])++[if decide (kd=5) then 125 else 93]))
 have hs:showT (.mk kd fr to' tx items names)=headT (.mk kd fr to' tx items names)++(itemsR false d (decide (kd=5)) items names true++([]++[if decide (kd=5) then 125 else 93])):=by
   rcases h with rfl|rfl
   ·rw[show decide ((4:Int)=5)=false from rfl,items_showA]
    unfold showT
    rfl
   ·rw[show decide ((5:Int)=5)=true from rfl,items_showO]
    unfold showT
    rfl
 cases ln
 ·rw[if_neg (by decide),hs]
  have e:(if decide (0<items.length)=true then nlT false (2*d) else [])=[]:=by split<;>rfl
  rw[e]
 ·rw [if_pos rfl]
  cases items with
  | nil =>
    have e1:lineT d (.mk kd fr to' tx [] names)=showT (.mk kd fr to' tx [] names):=by unfold lineT;rfl
    rw[e1,hs]
    rfl
  | cons u r =>
    rw[decide_eq_true (by simp:0<(u :: r).length),if_pos rfl]
    rcases h with rfl|rfl
    ·rw[show decide ((4:Int)=5)=false from rfl,items_lineA]
     unfold lineT
     rfl
    ·rw[show decide ((5:Int)=5)=true from rfl,items_lineO]
     unfold lineT
     rfl
theorem txt_leaf (ln:Bool) (d:Nat) (t:Tree) (h:¬ (t.kd=4∨t.kd=5)) (hi:t.items=[]):txtT ln d t=headT t:=by
 obtain ⟨kd,fr,to',tx,items,names⟩:=t
 have h4:¬ kd=4:=fun e=>h (.inl e)
 have h5:¬ kd=5:=fun e=>h (.inr e)
 have hi:items=[]:=hi
 subst hi
 have hs:showT (.mk kd fr to' tx [] names)=headT (.mk kd fr to' tx [] names):=by
   unfold showT headT
   show (if kd=3 then strT tx else if kd=4 then _ else if kd=5 then _ else tx)=(if kd=4 then [91] else if kd=5 then [123] else if kd=3 then strT tx else tx)
   rw[if_neg h4,if_neg h5,if_neg h4,if_neg h5]
 cases ln
 ·exact hs
 ·have e1:lineT d (.mk kd fr to' tx [] names)=showT (.mk kd fr to' tx [] names):=by unfold lineT;rfl
  show lineT d _=_
  rw[e1,hs]
theorem rest_end (ln:Bool) (d:Nat) (t:Tree):restT ln d t t.items.length=closeT ln d (decide (0<t.items.length)) (decide (t.kd=5)):=by
 unfold restT
 rw[List.drop_length]
 rfl
theorem rest_item (ln:Bool) (d:Nat) (t:Tree) (i:Nat) (u:Tree) (hu:t.items[i]?=some u) :
   restT ln d t i=(if i=0 then [] else [44])++(nlT ln (2*(d+1))++((if t.kd=5 then nameTx ln ((t.names.drop i).headD []) else [])++(txtT ln (d+1) u++restT ln d t (i+1)))):=by
 have hi:i<t.items.length:=(List.getElem?_eq_some_iff.1 hu).1
 have hd:t.items.drop i=u :: t.items.drop (i+1):=by
   rw[List.drop_eq_getElem_cons hi]
   congr 1
   rw[List.getElem?_eq_getElem hi] at hu
   exact Option.some.inj hu
 unfold restT
 rw[hd]
 show ((if decide (i=0)=true then [] else [44])++(nlT ln (2*(d+1))++((if decide (t.kd=5)=true then nameTx ln ((t.names.drop i).headD []) else [])++(txtT ln (d+1) u++itemsR ln d (decide (t.kd=5)) (t.items.drop (i+1)) (t.names.drop i).tail false))))++_=_
 rw[List.tail_drop]
 have e1:(if decide (i=0)=true then ([]:List UInt8) else [44])=if i=0 then [] else [44]:=by simp
 have e2:(if decide (t.kd=5)=true then nameTx ln ((t.names.drop i).headD []) else [])=if t.kd=5 then nameTx ln ((t.names.drop i).headD []) else []:=by simp
 have e3:decide (i+1=0)=false:=by simp
 rw[e1,e2,e3]
 simp only [List.append_assoc]
def remS (ln:Bool):List (Tree×Nat)→List UInt8
 | []=>[]
 | (t,i) :: ss=>restT ln ss.length t i++remS ln ss
mutual
def cntT:Tree→Nat
 | .mk _ _ _ _ items _=>1+cntL items
def cntL:List Tree→Nat
 | []=>0
 | t :: ts=>cntT t+1+cntL ts
end
def muS:List (Tree×Nat)→Nat
 | []=>0
 | (t,i) :: ss=>1+cntL (t.items.drop i)+muS ss
theorem mu_item (t:Tree) (i:Nat) (u:Tree) (hu:t.items[i]?=some u) (ss:List (Tree×Nat)):muS ((t,i) :: ss)=muS ((u,0) :: (t,i+1) :: ss)+1∧muS ((t,i+1) :: ss)<muS ((t,i) :: ss):=by
 have hi:i<t.items.length:=(List.getElem?_eq_some_iff.1 hu).1
 have hd:t.items.drop i=u :: t.items.drop (i+1):=by
   rw[List.drop_eq_getElem_cons hi]
   congr 1
   rw[List.getElem?_eq_getElem hi] at hu
   exact Option.some.inj hu
 have e:muS ((t,i) :: ss)=1+(cntT u+1+cntL (t.items.drop (i+1)))+muS ss:=by
   show 1+cntL (t.items.drop i)+muS ss=_
   rw[hd]
   rfl
 have e2:muS ((u,0) :: (t,i+1) :: ss)=1+cntL u.items+(1+cntL (t.items.drop (i+1))+muS ss):=rfl
 have e3:cntT u=1+cntL u.items:=by cases u;rfl
 have e4:muS ((t,i+1) :: ss)=1+cntL (t.items.drop (i+1))+muS ss:=rfl
 rw[e,e2,e3,e4]
 omega
mutual
def OkT:Tree→Prop
 | .mk kd _ _ tx items names=>tx.length≤1000∧(kd=5→names.length=items.length)∧(¬ (kd=4∨kd=5)→items=[])∧(∀ s∈names,s.length≤1000)∧items.length≤1000000∧OkL items
def OkL:List Tree→Prop
 | []=>True
 | t :: ts=>OkT t∧OkL ts
end
theorem OkL.at:∀ {ts:List Tree} {i:Nat} {u:Tree},OkL ts→ts[i]?=some u→OkT u
 | [],i,u,h,e=>by cases e
 | t :: ts,0,u,h,e=>by
   unfold OkL at h
   obtain rfl:t=u:=by simpa using e
   exact h.1
 | t :: ts,i+1,u,h,e=>by
   unfold OkL at h
   exact OkL.at h.2 (by simpa using e)
theorem OkT.head {t:Tree} (h:OkT t):t.tx.length≤1000∧(headT t).length≤100000000:=by
 obtain ⟨kd,fr,to',tx,items,names⟩:=t
 unfold OkT at h
 refine ⟨h.1,?_⟩
 have h1:=h.1
 have:=strT_le tx
 unfold headT
 show (if kd=4 then [91] else if kd=5 then [123] else if kd=3 then strT tx else tx).length≤_
 (repeat' split)<;>(try simp)<;>omega
theorem OkT.item {t u:Tree} {i:Nat} (h:OkT t) (hu:t.items[i]?=some u):OkT u:=by
 obtain ⟨kd,fr,to',tx,items,names⟩:=t
 unfold OkT at h
 exact h.2.2.2.2.2.at hu
theorem OkT.parts {kd:Int} {fr to':Nat} {tx:List UInt8} {items:List Tree} {names:List (List UInt8)} (h:OkT (.mk kd fr to' tx items names)) :
   (kd=5→names.length=items.length)∧(¬ (kd=4∨kd=5)→items=[])∧(∀ s∈names,s.length≤1000)∧items.length≤1000000:=by
 unfold OkT at h
 exact ⟨h.2.1,h.2.2.1,h.2.2.2.1,h.2.2.2.2.1⟩
def StkIs (W0:World):List (Addr×Nat)→List (Tree×Nat)→Prop
 | [],[]=>True
 | (p,i) :: fl,(t,j) :: ss=>i=j∧PtIs W0 p t∧(t.kd=4∨t.kd=5)∧OkT t∧i≤t.items.length∧StkIs W0 fl ss
 | _,_=>False
theorem StkIs.len {W0:World}:∀ {fl:List (Addr×Nat)} {ss:List (Tree×Nat)},StkIs W0 fl ss→fl.length=ss.length
 | [],[],_=>rfl
 | (p,i) :: fl,(t,j) :: ss,h=>by
   unfold StkIs at h
   simp[StkIs.len h.2.2.2.2.2]
 | [],_ :: _,h=>by unfold StkIs at h;exact h.elim
 | _ :: _,[],h=>by unfold StkIs at h;exact h.elim
theorem begin_rem (ln:Bool) (u:Tree) (ss:List (Tree×Nat)) (out:List UInt8) (hi:¬ (u.kd=4∨u.kd=5)→u.items=[]) :
   (out++headT u)++remS ln ((if u.kd=4∨u.kd=5 then [(u,0)] else [])++ss)=out++(txtT ln ss.length u++remS ln ss):=by
 by_cases h:u.kd=4∨u.kd=5
 ·rw[if_pos h,txt_node ln _ u h]
  show (out++headT u)++(restT ln ss.length u 0++remS ln ss)=_
  simp only [List.append_assoc]
 ·rw[if_neg h,txt_leaf ln _ u h (hi h)]
  simp only [List.append_assoc,List.nil_append]
theorem begin_stk {W0:World} {p:Addr} {u:Tree} {fl:List (Addr×Nat)} {ss:List (Tree×Nat)} (hs:StkIs W0 fl ss) (hp:PtIs W0 p u) (ho:OkT u) :
   ∃ fl',(fl.reverse++pushT p u)=fl'.reverse∧StkIs W0 fl' ((if u.kd=4∨u.kd=5 then [(u,0)] else [])++ss):=by
 unfold pushT
 by_cases h:u.kd=4∨u.kd=5
 ·rw[if_pos h,if_pos h]
  refine ⟨(p,0) :: fl,by simp,?_⟩
  show StkIs W0 ((p,0) :: fl) ((u,0) :: ss)
  unfold StkIs
  exact ⟨rfl,hp,h,ho,Nat.zero_le _,hs⟩
 ·rw[if_neg h,if_neg h]
  exact ⟨fl,by simp,hs⟩
end
end Go.Proofs.YtbpilcklglhloaaGreatDoor
