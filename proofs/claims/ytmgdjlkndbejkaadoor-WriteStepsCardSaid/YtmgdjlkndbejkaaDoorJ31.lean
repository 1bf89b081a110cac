/- Lemmas. -/
import Derived.Test.YtmgdjlkndbejkaaDoorJ30
import Derived.Handy
set_option maxRecDepth 100000
set_option maxHeartbeats 8000000
set_option linter.unusedVariables false
set_option linter.unusedSimpArgs false
namespace Go.Proofs.YtmgdjlkndbejkaaDoor
open Go.Lib (hid)
section
open Go.RowKit
def CiEnd (s:ByteArray) (W:World) (e:Ending) (w':World):Prop :=
 (match indexC s.data.toList with
   | none => ∃ x r,e=.returned (.tuple #[.int .i64 x,.string r,.bool false])
   | some (v,r)=>e=.returned (.tuple #[.int .i64 v,.string ⟨r.toArray⟩,.bool true]))∧Below W.heap.size W w'
theorem CiEnd.no {s:ByteArray} {W w':World} {x:Int} {r:ByteArray} (h:indexC s.data.toList=none) (hb:Below W.heap.size W w'):CiEnd s W (.returned (.tuple #[.int .i64 x,.string r,.bool false])) w':=by
 unfold CiEnd
 rw[h]
 exact ⟨⟨x,r,rfl⟩,hb⟩
theorem CiEnd.yes {s:ByteArray} {W w':World} {v:Int} {r:List UInt8} (h:indexC s.data.toList=some (v,r)) (hb:Below W.heap.size W w'):CiEnd s W (.returned (.tuple #[.int .i64 v,.string ⟨r.toArray⟩,.bool true])) w':=by
 unfold CiEnd
 rw[h]
 exact ⟨rfl,hb⟩
end
section
open Go.RowKit
def StB (W:World)(c0 c1 c2:Value)(w:World):Prop:=Own w W.heap.size 37 #[c0,c1,c2]∧Below W.heap.size W w
section
variable {W w w':World} {c0 c1 c2:Value}
theorem StB.start (W:World)(v:Array Value):StB W (.bool false) (.string ⟨#[]⟩) (.int .i64 0) (W.alloc (.cells #[.bool false,.string ⟨#[]⟩,.int .i64 0] 37)):=⟨Own.fresh _ _ _,below1 _ _⟩
theorem StB.mk (W:World)(c0 c1 c2:Value):StB W c0 c1 c2 (W.alloc (.cells #[c0,c1,c2] 37)):=⟨Own.fresh _ _ _,below1 _ _⟩
theorem StB.on (h:StB W c0 c1 c2 w)(hb:Below w.heap.size w w'):StB W c0 c1 c2 w':=⟨h.1.stay hb h.1.inside,h.2.trans (hb.mono h.2.size)⟩
theorem StB.free (h:StB W c0 c1 c2 w)(i:Nat):w.frozen? ⟨W.heap.size,i,none⟩=false:=h.1.free i
end
def CsEnd (l:List UInt8) (W:World) (e:Ending) (w':World):Prop :=
 (match cutC l with
   | none => ∃ (st:Pst) (r:ByteArray),e=.returned (.tuple #[.agg (stpV st),.string r,.bool false])
   | some (st,r)=>e=.returned (.tuple #[.agg (stpV st),.string ⟨r.toArray⟩,.bool true]))∧Below W.heap.size W w'
theorem CsEnd.no {l:List UInt8} {W w':World} {b:Bool} {n:List UInt8} {x:Int} {r:ByteArray} (h:cutC l=none) (hb:Below W.heap.size W w'):CsEnd l W (.returned (.tuple #[.agg #[.bool b,.string ⟨n.toArray⟩,.int .i64 x],.string r,.bool false])) w':=by
 unfold CsEnd
 rw[h]
 exact ⟨⟨⟨b,n,x⟩,r,rfl⟩,hb⟩
theorem CsEnd.yes {l:List UInt8} {W w':World} {st:Pst} {r:List UInt8} (h:cutC l=some (st,r)) (hb:Below W.heap.size W w'):CsEnd l W (.returned (.tuple #[.agg #[.bool st.named,.string ⟨st.name.toArray⟩,.int .i64 st.index],.string ⟨r.toArray⟩,.bool true])) w':=by
 unfold CsEnd
 rw[h]
 exact ⟨rfl,hb⟩
end
section
open Go.RowKit
theorem runU_low:∀ (l:List UInt8) (sg lf n:Int),0≤n → -1≤runU sg lf l n
 | [],sg,lf,n,h=>by
   unfold runU
   split<;>omega
 | c :: t,sg,lf,n,h=>by
   unfold runU
   split
   ·exact runU_low t _ _ (n+1) (by omega)
   ·omega
theorem badU_low (l:List UInt8) : -1≤badU l:=runU_low l 0 0 0 (by omega)
theorem right13p_any (s:Pst) (W:World) (hs:s.name.length≤maxLen) :
   Calls Tryd.prog 35 #[.agg (stpV s)] W fun e w'=>e=.returned (.bool (rightB s))∧Below W.heap.size W w':=by
 obtain ⟨nd,nm,ix⟩:=s
 have HB:=hid (fun w=>bad_any ⟨nm.toArray⟩ w (by exact hs))
 rw[show (⟨nm.toArray⟩:ByteArray).data.toList=nm from rfl] at HB
 have HE:=hid (name_eq nm)
 have hr:rightB ⟨nd,nm,ix⟩=if nd then decide (ix=0)&&decide (badU nm = -1) else decide (nm=[])&&decide (0≤ix∧ix≤9007199254740991):=rfl
 rw[hr]
 clear hr
 unfold stpV
 cases nd
 ·show Calls _ _ _ _ fun e w'=>e=.returned (.bool (decide (nm=[])&&decide (0≤ix∧ix≤9007199254740991)))∧_
  by_cases h0:nm=[]
  ·have e1:=HE.out
   rw[decide_eq_true h0] at e1 ⊢
   have hd:(true&&decide (0≤ix∧ix≤9007199254740991))=(decide (0≤ix)&&decide (ix≤9007199254740991)):=by
     by_cases a:0≤ix<;>by_cases b:ix≤9007199254740991<;>simp[a,b]
   rw[hd]
   clear hd HE h0 HB
   generalize (⟨nm.toArray⟩:ByteArray)=nb at *
   go_enter Tryd.func35,Tryd.ntmps35
   go_wp2
   all_goals
     go_ret
     exact ⟨ret_b (by first|(simp_all;done)|(simp_all;omega)),below1 _ _⟩
  ·have e1:=HE.out
   rw[decide_eq_false h0] at e1 ⊢
   clear HE h0 HB
   generalize (⟨nm.toArray⟩:ByteArray)=nb at *
   go_enter Tryd.func35,Tryd.ntmps35
   go_wp2
   all_goals
     go_ret
     exact ⟨ret_b (by first|(simp_all;done)|(simp_all;omega)),below1 _ _⟩
 ·show Calls _ _ _ _ fun e w'=>e=.returned (.bool (decide (ix=0)&&decide (badU nm = -1)))∧_
  clear HE
  have HL:=hid (badU_low nm)
  generalize badU nm=bu at *
  generalize (⟨nm.toArray⟩:ByteArray)=nb at *
  by_cases h0:ix=0
  ·subst h0
   have hd:(decide ((0:Int)=0)&&decide (bu = -1))=decide (bu<0):=by
     have h1:decide (bu = -1)=decide (bu<0):=by
       have hl:=HL.out
       by_cases a:bu = -1
       ·rw[decide_eq_true a,decide_eq_true (show bu<0 by omega)]
       ·rw[decide_eq_false a,decide_eq_false (show ¬ bu<0 by omega)]
     rw[h1]
     simp
   rw[hd]
   clear hd
   go_enter Tryd.func35,Tryd.ntmps35
   go_wp2_with (go_at_call 45;refine (HB.out _).mono ?_;rintro e w' ⟨rfl,hb⟩;have HW:=hid ((below1 W _).trans (hb.mono (by simp)));clear hb)
   go_ret
   exact ⟨ret_b (by simp),HW.out⟩
  ·rw[decide_eq_false h0]
   have g0:(ix==0)=false:=beq_eq_false_iff_ne.2 h0
   go_enter Tryd.func35,Tryd.ntmps35
   go_wp2
   go_ret
   exact ⟨ret_b (by simp),below1 _ _⟩
end
section
open Go.RowKit
def RelPq (W:World) (l:List Pst) (i:Value) (wr:World):Prop :=
 ∃ k:Nat,k≤l.length∧i=.int .i64 k∧(l.take k).all rightB=true∧CnI W (36 :: (l.take k).flatMap stepT) wr
theorem cnI_of {W wr w':World} {F:Nat→Prop} {acc acc':List UInt8} {o:Obj} (h:CnI W acc wr) (hF:∀ k,F k→W.heap.size≤k) (g:Wr (wr.alloc o) W.heap.size F acc' w'):CnI W acc' w':=by
 have hz:=h.2.size
 have e:(wr.alloc o).heap.size=wr.heap.size+1:=by simp
 refine ⟨g.1.mono (fun k hk => ?_),(h.2.alloc hz o).trans (g.2.below (fun k _ h=>hF k h) (by omega))⟩
 rcases hk with h|h
 ·exact hF k h
 ·omega
theorem put13p_any (l:List Pst) (A:Option Addr) (n c:Nat) (W:World) (hP:Pow13 W) (hx:RdP W A n l) (hw:wtP l≤1000000) :
   Calls Tryd.prog 19 #[.slice A n c] W fun e w'=>e=.returned (.string ⟨(putP l).toArray⟩)∧Below W.heap.size W w':=by
 have hl:l.length=n:=hx.1
 have HX:=hid hx
 have HPW:=hid hP
 clear hx hP
 have S0:=hid (CnI.start W)
 go_enter Tryd.func19,Tryd.ntmps19
 go_wp2_with (go_at_call 30;refine (writeString_of W.heap.size _ [] [36] _ rfl _ S0.out.1 (by show 0+1≤_;omega)).mono ?_;rintro e w1 ⟨rfl,h1⟩;have S1:Hid (CnI W [36] w1):=hid ⟨h1.1.mono (fun k hk=>hk.elim id (fun h=>by have:=S0.out.2.size;omega)),S0.out.2.trans (h1.2.below (fun k _ h=>h) S0.out.2.size)⟩;clear h1)
 go_loopw [9] (fun i wr=>RelPq W l i wr) (fun i _=>l.length-(intOf i).toNat)
 case atStart=>exact ⟨0,Nat.zero_le _,rfl,rfl,S1.out⟩
 case round =>
   obtain ⟨k,hk,rfl,hr,hI⟩:=hrel
   have hk9:(k:Int)≤1000000:=by have:=wt_length l;omega
   by_cases hlt:k<l.length
   ·have hltI : (k:Int)<n:=by omega
    have hX2:=HX.out.stay hI.2
    obtain ⟨a,rfl,ha,hc⟩:=hX2.2 (by omega)
    obtain ⟨s0,s1,s2⟩:=hc k l[k] (List.getElem?_eq_getElem hlt)
    have HTA:=hid (take_all hlt)
    have HTF:=hid (take_flat hlt)
    have HNO:=hid (fun h=>all_not hlt h)
    have hwn:=wt_in (List.getElem?_eq_getElem hlt)
    have hsz:=flat_le (l.take k) hr
    have hwk:=wt_take l k
    generalize hsk:l[k]=sk at *
    have HR:=hid (fun w=>right13p_any sk w (by unfold maxLen;omega))
    unfold stpV at HR
    have o1:=Own.fresh wr 37 #[.bool sk.named,.string ⟨sk.name.toArray⟩,.int .i64 sk.index]
    have HO:=hid o1
    have HI:=hid hI
    have hbA:BldS (wr.alloc (.cells #[.bool sk.named,.string ⟨sk.name.toArray⟩,.int .i64 sk.index] 37)) W.heap.size (fun k=>W.heap.size≤k∧k<wr.heap.size) (36 :: (l.take k).flatMap stepT) :=
      hI.1.bound.stay (G:=fun k=>wr.heap.size≤k) (Touch.of_below (below1 wr _) (fun k _ h=>h)) (fun k hk h e=>by omega)
    have HB0:=hid hbA
    have hacc:(36 :: (l.take k).flatMap stepT).length≤20000001:=by rw[List.length_cons];omega
    have HLEN:=hid hacc
    have HEND:=hid (fun (w4:World) (m:List UInt8) (g:Wr (wr.alloc (.cells #[.bool sk.named,.string ⟨sk.name.toArray⟩,.int .i64 sk.index] 37)) W.heap.size (fun k=>W.heap.size≤k∧k<wr.heap.size) ((((36 :: (l.take k).flatMap stepT)++[91])++m)++[93]) w4) (hm:stepT sk=91 :: (m++[93]))=>show CnI W (36 :: (l.take (k+1)).flatMap stepT) w4 by
      have:=cnI_of hI (fun k h=>h.1) g
      rw[HTF.out,hm]
      simpa using this)
    clear hsk hc hX2 o1 hbA hsz hwk hI hacc
    generalize 36 :: (l.take k).flatMap stepT=acc at *
    have HBEL:=hid (fun (w':World) (m:List UInt8) (g:Wr (wr.alloc (.cells #[.bool sk.named,.string ⟨sk.name.toArray⟩,.int .i64 sk.index] 37)) W.heap.size (fun k=>W.heap.size≤k∧k<wr.heap.size) m w')=>(cnI_of HI.out (fun k h=>h.1) g).2)
    have hnF:¬ (W.heap.size≤wr.heap.size∧wr.heap.size<wr.heap.size):=by omega
    by_cases hrs:rightB sk=true
    ·rw [hrs] at HR HTA
     have tkA:True:=trivial
     have tkB:True:=trivial
     cases hnm:sk.named
     ·obtain ⟨hq0,h1,h2⟩:=right_index hrs hnm
      clear hq0
      obtain ⟨v,hv⟩:=Int.eq_ofNat_of_zero_le h1
      have HD:=hid (fun w hw=>itoa_any v (by omega) w hw)
      have hN:(⟨(digN v).toArray⟩:ByteArray).size≤16:=digN_len 15 v (by simp;omega)
      have hNl:(digN v).length≤16:=hN
      have HST:=hid (show stepT sk=91 :: (digN v++[93]) by
        unfold stepT
        rw[hnm,if_neg (by decide),hv,Int.toNat_natCast])
      rw[hnm,hv] at HO HR HB0 HEND HBEL
      rw[hnm] at s0
      rw[hv] at s2
      clear hrs h1 h2 hnm hv HNO
      generalize (⟨sk.name.toArray⟩:ByteArray)=nm at *
      go_wp2_with (first
        | (go_at_call 35
           go_must (
             refine (HR.out _).mono ?_
             rintro e w1 ⟨rfl,hb1⟩
             have h1:=Wr.start HB0.out hb1
             have H1:=hid h1
             have o1:=h1.2.own HO.out hnF
             have d0:w1.cell? ⟨wr.heap.size,0,none⟩=some (.bool false):=o1.at 0
             clear h1 hb1 o1))
        | (go_at_call 30
           clear tkA
           go_must (
             refine (writeString_of W.heap.size _ _ [91] _ rfl _ H1.out.1 (by show acc.length+1≤_;have:=HLEN.out;omega)).mono ?_
             rintro e w2 ⟨rfl,h2⟩
             have h2:=H1.out.more h2
             have o2:=h2.2.own HO.out hnF
             clear d0
             have d0:w2.cell? ⟨wr.heap.size,0,none⟩=some (.bool false):=o2.at 0
             have d2:w2.cell? ⟨wr.heap.size,2,none⟩=some (.int .i64 v):=o2.at 2
             have H2:=hid h2
             clear h2 o2))
        | (go_at_call 40
           go_must (
             refine (HD.out _ (HPW.out.stay (HBEL.out _ _ H2.out))).mono ?_
             rintro e w3 ⟨rfl,hb3⟩
             have H3:=hid (H2.out.more (Wr.start H2.out.1 hb3))
             clear hb3))
        | (go_at_call 30
           clear tkB
           go_must (
             refine (writeString_of W.heap.size _ _ (digN v) _ rfl _ H3.out.1 (by have:=HLEN.out;simp only [List.length_append,List.length_cons,List.length_nil];omega)).mono ?_
             rintro e w4 ⟨rfl,h4⟩
             have H4:=hid (H3.out.more h4)
             clear h4))
        | (go_at_call 30
           go_must (
             refine (writeString_of W.heap.size _ _ [93] _ rfl _ H4.out.1 (by have:=HLEN.out;simp only [List.length_append,List.length_cons,List.length_nil];show _+1≤_;omega)).mono ?_
             rintro e w5 ⟨rfl,h5⟩
             have H5:=hid (H4.out.more h5)
             clear h5)))
      go_roundw
      case rel=>exact ⟨k+1,hlt,by go_num,by rw[HTA.out,hr];rfl,HEND.out _ _ H5.out HST.out⟩
      case measure=>simp[intOf];omega
     ·have hname:(⟨sk.name.toArray⟩:ByteArray).size≤1000000000:=by show sk.name.length≤_;omega
      have hNl:(nameT sk.name).length≤6000002:=by have:=nameT_six sk.name;omega
      have HD:=hid (fun b F acc w h1 h2=>putName_any b F acc ⟨sk.name.toArray⟩ w h1 hname h2)
      rw[show (⟨sk.name.toArray⟩:ByteArray).data.toList=sk.name from rfl] at HD
      have HST:=hid (show stepT sk=91 :: (nameT sk.name++[93]) by
        unfold stepT
        rw[hnm,if_pos rfl])
      rw[hnm] at HO HR HB0 HEND HBEL
      rw[hnm] at s0
      clear hrs hnm HNO hname hwn
      generalize nameT sk.name=nt at *
      generalize (⟨sk.name.toArray⟩:ByteArray)=nm at *
      generalize sk.index=ix at *
      go_wp2_with (first
        | (go_at_call 35
           go_must (
             refine (HR.out _).mono ?_
             rintro e w1 ⟨rfl,hb1⟩
             have h1:=Wr.start HB0.out hb1
             have H1:=hid h1
             have o1:=h1.2.own HO.out hnF
             have d0:w1.cell? ⟨wr.heap.size,0,none⟩=some (.bool true):=o1.at 0
             clear h1 hb1 o1))
        | (go_at_call 30
           clear tkA
           go_must (
             refine (writeString_of W.heap.size _ _ [91] _ rfl _ H1.out.1 (by show acc.length+1≤_;have:=HLEN.out;omega)).mono ?_
             rintro e w2 ⟨rfl,h2⟩
             have h2:=H1.out.more h2
             have o2:=h2.2.own HO.out hnF
             clear d0
             have d0:w2.cell? ⟨wr.heap.size,0,none⟩=some (.bool true):=o2.at 0
             have d1:w2.cell? ⟨wr.heap.size,1,none⟩=some (.string nm):=o2.at 1
             have H2:=hid h2
             clear h2 o2))
        | (go_at_call 39
           go_must (
             refine (HD.out _ _ _ _ H2.out.1 (by have:=HLEN.out;simp only [List.length_append,List.length_cons,List.length_nil];omega)).mono ?_
             rintro e w4 ⟨rfl,h4⟩
             have H4:=hid (H2.out.more h4)
             clear h4))
        | (go_at_call 30
           go_must (
             refine (writeString_of W.heap.size _ _ [93] _ rfl _ H4.out.1 (by have:=HLEN.out;simp only [List.length_append,List.length_cons,List.length_nil];show _+1≤_;omega)).mono ?_
             rintro e w5 ⟨rfl,h5⟩
             have H5:=hid (H4.out.more h5)
             clear h5)))
      go_roundw
      case rel=>exact ⟨k+1,hlt,by go_num,by rw[HTA.out,hr];rfl,HEND.out _ _ H5.out HST.out⟩
      case measure=>simp[intOf];omega
    ·have HP0:=hid (HNO.out hrs)
     rw[Bool.eq_false_iff.2 hrs] at HR
     clear hrs HTF HTA HEND
     go_wp2_with (go_at_call 35;refine (HR.out _).mono ?_;rintro e w4 ⟨rfl,hb4⟩;have HB4:=hid (HBEL.out _ _ (Wr.start HB0.out hb4));clear hb4)
     go_ret
     rw[HP0.out]
     exact ⟨rfl,HB4.out⟩
   ·have hltI:¬ (k:Int)<n:=by omega
    have ht:l.take k=l:=List.take_of_length_le (by omega)
    have HP0:=hid (show putP l=36 :: l.flatMap stepT by unfold putP;rw[if_pos (by rw[← ht];exact hr)])
    have hsz:=flat_le (l.take k) hr
    rw[ht] at hsz hI
    have HI:=hid hI
    have hlen:(36 :: l.flatMap stepT).length≤1000000000:=by rw[List.length_cons];omega
    have HS:=hid (CnI.str hI hlen)
    clear hr hI
    go_wp2_with (go_at_call 31;refine HS.out.mono ?_;rintro e w2 ⟨rfl,h2⟩;have HB2:=hid h2.2;clear h2)
    go_ret
    rw[HP0.out]
    exact ⟨rfl,HB2.out⟩
end
end Go.Proofs.YtmgdjlkndbejkaaDoor
