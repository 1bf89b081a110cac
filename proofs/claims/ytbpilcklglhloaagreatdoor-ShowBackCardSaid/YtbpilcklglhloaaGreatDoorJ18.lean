/- Lemmas. -/
import Derived.Test.YtbpilcklglhloaaGreatDoorJ17
import Derived.Deep.RegionLaw
set_option maxRecDepth 100000
set_option maxHeartbeats 8000000
set_option linter.unusedVariables false
namespace Go.Proofs.YtbpilcklglhloaaGreatDoor
open Go.Lib (hid)
section
open Go.RowKit
theorem step_row_append {α:Type} {KK:RowK α} {ops:Array Oper} {o:Oper} {a:Act} {w:World} {K:Act→World→Prop} {Q:Exit→Act→World→Prop} {E:Prop} (hgd:o.guard=none) (s x:Operand) (ho:o.op=.call { callee:=.builtin .append,args:=#[s,x],argTypes:=#[KK.S,KK.S] })
   (base:Nat) (v:Value) (l:List α) (hs:a.eval s=v) (hown:GRow KK w base v l) (A:Option Addr) (m c:Nat) (news:List α) (hx:a.eval x=.slice A m c) (hr:RdG KK w A m news)
   (h63:l.length+m≤1000000000) (hbase:base≤w.heap.size)
   (hK:∀ v' w',GRow KK w' base v' (l++news)→w.grownBy w' v.ownBlock→(v'.ownBlock=v.ownBlock∨v'.ownBlock=some w.heap.size)→K (a.put o.dst v') w'):if Region.wanted o (yielded ops a.tmps)=true then Oper.wp Tryz.prog o a w K Q else E:=by
 have hw:Region.wanted o (yielded ops a.tmps)=true:=by simp[Region.wanted,hgd]
 rw[if_pos hw]
 obtain ⟨v',w',hrun,h2,h3,h5⟩:=run_row_append w base o.type v l hown A m c news hr h63 hbase
 unfold Oper.wp execOp
 simp only [ho,resolve,invoke,builtin,Sem.run_bind,Sem.run_pure,Result.andThen_ok,List.map_toArray,List.map_cons,List.map_nil,hs,hx,hrun]
 exact hK v' w' h2 h3 h5
section
variable {w w':World} {b:Nat} {F G:Nat→Prop} {m y wi:Int} {l:List Bool} {lv:List Lvl} {v:Value}
theorem stL_none:stL [] lv=⟨false,[],0⟩:=by
 unfold stL
 cases lv.getLast?<;>rfl
theorem stL_some {k:Nat} {x:Lvl} {o:Bool} (ho:l.getLast?=some o) (hk:lv.length=k+1) (hx:lv[k]?=some x):stL l lv=if o then ⟨true,x.name,0⟩ else ⟨false,[],x.many⟩:=by
 have:lv.getLast?=some x:=by rw[List.getLast?_eq_getElem?,hk];exact hx
 unfold stL
 rw[ho,this]
 cases o<;>rfl
theorem events_any (h:NR w b F m y wi l lv) (hl:l.length=lv.length) (h5:l.length≤5000) (e:Evt) :
   Calls Tryz.prog 77 #[.pointer (some ⟨b,0,none⟩),.agg (evCells e).toArray] w fun e' w' => ∃ v,e'=.returned v∧GRow evK w' w.heap.size v [evAt e (stL l lv)]∧Below w.heap.size w w':=by
 refine events_with e (stL l lv) (fun w' hb => ?_)
 rcases Nat.eq_zero_or_pos l.length with h0|h0
 ·obtain rfl:l=[]:=List.eq_nil_of_length_eq_zero h0
  rw[stL_none]
  exact step_none (h.below hb)
 ·obtain ⟨k,hk⟩:∃ k,l.length=k+1:=⟨l.length-1,by omega⟩
  obtain ⟨o,ho⟩:∃ o,l.getLast?=some o:=by
    cases hh:l.getLast? with
    | none=>rw[List.getLast?_eq_none_iff] at hh;subst hh;simp at h0
    | some o=>exact ⟨o,rfl⟩
  have hx:lv[k]?=some lv[k]:=List.getElem?_eq_getElem (by omega)
  rw[stL_some ho (by omega) hx]
  exact step_some o (h.below hb) k lv[k] (by omega) hk ho (by omega) hx
theorem GRow.keep {α:Type} {K:RowK α} {base:Nat} {v:Value} {l:List α} {T:Nat→Prop} (h:GRow K w base v l) (ht:Touch T w w') (hT:∀ g,v.ownBlock=some g→¬ T g):GRow K w' base v l :=
 h.stay (fun g hg=>ht.block g (h.low hg).2 (hT g hg))
theorem push_nest (h:NRaw w b m y wi l lv v G) (o:Bool) (h5:l.length≤5000) :
   Calls Tryz.prog 83 #[.pointer (some ⟨b,3,none⟩),.bool o] w fun e w'=>e=.returned (.tuple #[]) ∧ ∃ G',NRaw w' b m y wi (l++[o]) lv v G'∧Touch G w w' ∧ ∀ k,k<w.heap.size→G' k→G k:=by
 refine (KB.push_any b G l o w h.stk h5).mono ?_
 rintro e w' ⟨rfl,G',hs,ht,hd⟩
 exact ⟨rfl,G',h.bits hs ht hd,ht,hd⟩
theorem NRaw.stpgrown {wb:World} {o:Obj} (h:NRaw w b m y wi l lv v G) (hg:(w.alloc o).grownBy wb v.ownBlock):KB.StP ⟨.int .i64 m,.int .i64 y,.int .i64 wi,v⟩ wb b G l :=
 StP.move (StP.move h.stk (Touch.of_new (F:=fun _=>False) (bel1 w o)) (fun _ _ h=>h)) ((Touch.refl (fun j=>v.ownBlock=some j) _).grown hg (fun j hj=>.inl hj)) (fun j hj hv=>h.off j hv hj)
theorem NRaw.grown {wb:World} {o:Obj} {v1:Value} {x:Lvl} (h:NRaw w b m y wi l lv v G) (row1:GRow lvK wb 0 v1 (lv++[x])) (hg:(w.alloc o).grownBy wb v.ownBlock) (ha:v1.ownBlock=v.ownBlock∨v1.ownBlock=some (w.alloc o).heap.size) :
   NRaw (wb.setCell ⟨b,5,none⟩ v1) b m y wi l (lv++[x]) v1 G:=by
 have hsz:(w.alloc o).heap.size=w.heap.size+1:=by simp
 have hd:=bel1 w o
 have hs1:=h.stpgrown hg
 have hne:∀ g,v1.ownBlock=some g→¬ G g:=fun g e hG=>by
   rcases ha with e2|e2
   ·exact h.off g (e2.symm.trans e) hG
   ·have:=StP.in h.stk hG
    rw[e2,hsz] at e
    injection e with e
    omega
 exact ⟨StP.put5 hs1 v1,row1.stay (fun g e=>Below.heap_setCell _ _ _ _ (fun e2=>hne g e (by have:g=b:=e2;rw[this];exact StP.self h.stk))),hne⟩
theorem open_no (h:NR w b F m y wi l lv) (t:Tok) (hv:(y==0||y==1||y==2)=false) :
   Calls Tryz.prog 54 #[.pointer (some ⟨b,0,none⟩),.agg (tokCells t).toArray] w fun e w'=>e=.returned (.tuple #[.slice none 0 0,.int .i64 (if y==7 then 9 else 8)])∧Below w.heap.size w w':=by
 have HV:=hid (fun w' (hb:Below w.heap.size w w')=>valueMay_any b y w' (h.below hb).c1)
 have HR:=hid (fun w' (hb:Below w.heap.size w w')=>refuse_any b y w' (h.below hb).c1)
 simp only [hv] at HV
 clear h hv
 generalize (if y==7 then (9:Int) else 8)=r at *
 go_enter Tryz.func54,Tryz.ntmps54
 go_wp2_with (first
   | (go_at_call 80;refine (HV.out _ (bel1 w _)).mono ?_;rintro e w' ⟨rfl,rfl⟩)
   | (go_at_call 58;refine (HR.out _ (bel1 w _)).mono ?_;rintro e w' ⟨rfl,rfl⟩))
 go_ret2
 exact ⟨rfl,bel1 w _⟩
theorem open_deep (h:NR w b F m y wi l lv) (t:Tok) (hv:(y==0||y==1||y==2)=true) (hm:(l.length:Int)=m) :
   Calls Tryz.prog 54 #[.pointer (some ⟨b,0,none⟩),.agg (tokCells t).toArray] w fun e w'=>e=.returned (.tuple #[.slice none 0 0,.int .i64 12])∧Below w.heap.size w w':=by
 have HV:=hid (fun w' (hb:Below w.heap.size w w')=>valueMay_any b y w' (h.below hb).c1)
 have HD:=hid (fun w' (hb:Below w.heap.size w w')=>depth_any (h.below hb))
 have HC:=hid (fun w' (hb:Below w.heap.size w w')=>(h.below hb).c0)
 simp only [hv] at HV
 have hz:((l.length:Int)==m)=true:=by rw[beq_iff_eq];exact hm
 clear h hv hm
 go_enter Tryz.func54,Tryz.ntmps54
 go_wp2_with (
   go_at_call 80;refine (HV.out _ (bel1 w _)).mono ?_;rintro e w' ⟨rfl,rfl⟩
   have c0:=HC.out _ (bel1 w (.cells (tokCells t).toArray 54)))
 go_quiet ((go_at_call 81;exact Calls.quiet_of_same ((HD.out _ (bel_drew (bel1 w _) _)).mono (by rintro e w' ⟨rfl,rfl⟩;exact ⟨rfl,rfl⟩))))
 go_wp2
 go_ret2
 exact ⟨rfl,bel_drew (bel1 w _) _⟩
end
end
section
open Go.RowKit
theorem kindOf_is (o:Bool) (w:World):Calls Tryz.prog 82 #[.bool o] w fun e w'=>e=.returned (.int .i64 (if o then 5 else 4))∧w'=w :=
 (kindOf_any o w).mono (by rintro e w' ⟨rfl,rfl⟩;exact ⟨rfl,rfl⟩)
section
variable {w w':World} {b:Nat} {F G:Nat→Prop} {m y wi:Int} {l:List Bool} {lv:List Lvl} {v:Value}
theorem open_yes (h:NR w b F m y wi l lv) (hF:∀ k,F k→k<w.heap.size) (t:Tok) (o:Bool) (ho:(t.kind==4)=o) (hv:(y==0||y==1||y==2)=true) (hm:(l.length:Int)≠m) (hl:l.length=lv.length) (h5:l.length≤4998) :
   Calls Tryz.prog 54 #[.pointer (some ⟨b,0,none⟩),.agg (tokCells t).toArray] w fun e w' => ∃ v,e=.returned (.tuple #[v,.int .i64 0])∧GRow evK w' w.heap.size v [⟨1,if o then 5 else 4,t.fr,0,stL l lv,[]⟩]∧Aft F w w' b m (if o then 4 else 2) wi (l++[o]) (lv++[⟨t.fr,0,[]⟩]):=by
 have HV:=hid (fun w' (hb:Below w.heap.size w w')=>valueMay_any b y w' (h.below hb).c1)
 have HD:=hid (fun w' (hb:Below w.heap.size w w')=>depth_any (h.below hb))
 have HC:=hid (fun w' (hb:Below w.heap.size w w')=>(h.below hb).c0)
 simp only [hv] at HV
 have hz:((l.length:Int)==m)=false:=by rw[beq_eq_false_iff_ne];exact hm
 have HE:=hid (fun w' (hb:Below w.heap.size w w')=>(show Calls Tryz.prog 77 #[.pointer (some ⟨b,0,none⟩),.agg #[.int .i64 1,.int .i64 (if o then 5 else 4),.int .i64 t.fr,.int .i64 0,.bool false,.string ⟨#[]⟩,.int .i64 0,.string ⟨#[]⟩]] w' (fun e' w2 => ∃ v,e'=.returned v∧GRow evK w2 w'.heap.size v [⟨1,if o then 5 else 4,t.fr,0,stL l lv,[]⟩]∧Below w'.heap.size w' w2)
   from events_any (h.below hb) hl (by omega) ⟨1,if o then 5 else 4,t.fr,0,⟨false,[],0⟩,[]⟩))
 obtain ⟨v,G,h,hG1,hG2⟩:=h
 have HM:=hid (fun w' (hb:Below w.heap.size w w')=>h.move (Touch.of_new (F:=fun _=>False) hb) (fun _ _ h=>h) (fun _ _ h=>h))
 have HG1:=hid hG1
 have HG2:=hid hG2
 have HF:=hid hF
 have HL:=hid hl
 have hbF:=h.inside
 obtain ⟨kd,bg,fr,to,tx⟩:=t
 have hkd:(kd==4)=o:=ho
 clear h hv hm hl hG1 hG2 hF ho
 cases o
 all_goals
   show Calls _ _ #[.pointer (some ⟨b,0,none⟩),.agg #[.int .i64 kd,.bool bg,.int .i64 fr,.int .i64 to,.string ⟨tx.toArray⟩]] _ _
   go_enter Tryz.func54,Tryz.ntmps54
   go_wp2_with (
     go_at_call 80;refine (HV.out _ (bel1 w _)).mono ?_;rintro e w' ⟨rfl,rfl⟩
     have c0:=HC.out _ (bel1 w (.cells #[.int .i64 kd,.bool bg,.int .i64 fr,.int .i64 to,.string ⟨tx.toArray⟩] 54)))
   go_quiet ((go_at_call 81;exact Calls.quiet_of_same ((HD.out _ (bel_drew (bel1 w _) _)).mono (by rintro e w' ⟨rfl,rfl⟩;exact ⟨rfl,rfl⟩))))
   have hB1:Below w.heap.size w ((w.alloc (.cells #[.int .i64 kd,.bool bg,.int .i64 fr,.int .i64 to,.string ⟨tx.toArray⟩] 54)).drewN nq):=bel_drew (bel1 w _) nq
   have hO1:Own ((w.alloc (.cells #[.int .i64 kd,.bool bg,.int .i64 fr,.int .i64 to,.string ⟨tx.toArray⟩] 54)).drewN nq) w.heap.size 54 _:=Own.fresh w 54 #[.int .i64 kd,.bool bg,.int .i64 fr,.int .i64 to,.string ⟨tx.toArray⟩]
   clear c0
   generalize (w.alloc (.cells #[.int .i64 kd,.bool bg,.int .i64 fr,.int .i64 to,.string ⟨tx.toArray⟩] 54)).drewN nq=w1 at *
   have n0:=hO1.at 0
   have n2:=hO1.at 2
   simp at n0 n2
   have HB1:=hid hB1
   have HO1:=hid hO1
   clear hB1 hO1
   go_wp2
   refine wp_region_still_tail 6 (by kernel_rfl) (by kernel_rfl) ?_
   simp only [List.take_succ_cons,List.take_zero,List.drop_succ_cons,List.drop_zero]
   iterate 2 still_step
   still_call (kindOf_is _ w1.drew)
   repeat still_step
   refine wpStill_nil ?_
   change wpList _ _ _ _ _ w1.drew
   have HB2:=hid (show Below w.heap.size w w1.drew from bel_drew HB1.out 1)
   have HO2:=hid (show Own w1.drew w.heap.size 54 _ from HO1.out)
   clear n0 n2 HB1 HO1 HV HD HC
   generalize w1.drew=w2 at *
   go_wp2_with (first
     | (go_at_call 77;refine (HE.out _ HB2.out).mono ?_;rintro e w3 ⟨ve,rfl,hev,hb3⟩
        have HZ:=hid HB2.out.size
        have HEV:=hid hev
        have HB3:=hid (HB2.out.trans (hb3.mono HB2.out.size))
        have HO3:=hid (HO2.out.stay hb3 HO2.out.inside)
        clear hev hb3)
     | (go_at_call 83;refine (push_nest (HM.out _ HB3.out) _ (by omega)).mono ?_;rintro e w4 ⟨rfl,G',hn,ht,hd⟩
        have HT4:=hid (ht.mono (fun j _ hj=>HG1.out j hj))
        have HN4:=hid hn
        have HD4:=hid (show ∀ j,G' j→F j∨w.heap.size≤j from fun j hj=>by
         by_cases hjw:j<w3.heap.size
         ·exact .inl (HG1.out j (hd j hjw hj))
         ·have:=HB3.out.size;exact .inr (by omega))
        have hO4:Own w4 w.heap.size 54 _:=ht.own HO3.out (fun hj=>by have:=HF.out _ (HG1.out _ hj);omega)
        have n2:=hO4.at 2
        simp at n2
        have c5:=(StP.cells hn.stk).2.2.2
        have c1:=(StP.cells hn.stk).2.1
        have f5:=StP.free hn.stk 5
        have f1:=StP.free hn.stk 1
        clear hn ht hd hO4))
   have d5:w4.drew.cell? ⟨b,5,none⟩=some v:=c5
   have d2:w4.drew.cell? ⟨w.heap.size,2,none⟩=some (.int .i64 fr):=n2
   have hd:=bel1 w4.drew (.cells #[.int .i64 fr,.int .i64 0,.string ⟨#[]⟩] 135)
   have HT5:=hid (show Touch F w3 w4.drew from HT4.out.drewN 1)
   have HN5:=hid (show NRaw w4.drew b m y wi _ lv v G' from HN4.out.drewN 1)
   have a5:(w4.drew.alloc (.cells #[.int .i64 fr,.int .i64 0,.string ⟨#[]⟩] 135)).cell? ⟨b,5,none⟩=some v:=(hd.cell (p:=⟨b,5,none⟩) HN5.out.inside).trans d5
   have a5':(w4.alloc (.cells #[.int .i64 fr,.int .i64 0,.string ⟨#[]⟩] 135)).drew.cell? ⟨b,5,none⟩=some v:=a5
   have ROW:=hid ((HN5.out.row).stay (w':=w4.drew.alloc (.cells #[.int .i64 fr,.int .i64 0,.string ⟨#[]⟩] 135)) (fun g hg=>hd.block g (HN5.out.row.low hg).2))
   have NEW:=hid ((GRow.made (K:=lvK) (base:=0) (l:=[⟨fr,0,[]⟩]) w4.drew #[.int .i64 fr,.int .i64 0,.string ⟨#[]⟩] rfl (by simp[maxLen]) (Nat.zero_le _)).rd)
   clear c5 c1 f5 f1 n2 HT4 HN4 hd
   go_region_law (
      (refine step_row_append (KK:=lvK) rfl (.tmp 41) (.tmp 45) rfl 0 v lv rfl ROW.out _ 1 1 [⟨fr,0,[]⟩] rfl NEW.out (by have:=HL.out;omega) (Nat.zero_le _) ?_
       intro v1 wb row1 grown1 at1
       have hsb:=HN5.out.stpgrown grown1
       have c5:=(StP.cells hsb).2.2.2
       have c1:=(StP.cells hsb).2.1
       have f5:=StP.free hsb 5
       have f1:=StP.free hsb 1
       have HG:=hid grown1
       have HA:=hid at1
       have HR:=hid row1
       obtain ⟨A1,m1,c1',rfl⟩:=KB.row_slice row1
       clear hsb row1 grown1 at1))
   all_goals
     go_wp2
     go_ret2
     have H6:=HN5.out.grown HR.out HG.out HA.out
     have hbF2:=HG1.out b (StP.self (HM.out w (Below.refl _ _)).stk)
     have hvF:∀ j,v.ownBlock=some j→F j∨w3.heap.size≤j:=fun j hj=>.inl (HG2.out j hj)
     have hT6:=((HT5.out.alloc (.cells #[.int .i64 fr,.int .i64 0,.string ⟨#[]⟩] 135)).grown HG.out hvF).setCell (p:=⟨b,5,none⟩) (.inl hbF2) (.slice A1 m1 c1')
     have hz1:=HZ.out
     have hz3:=HB3.out.size
     have hev:=HEV.out
     have hevF:∀ g,ve.ownBlock=some g→¬ F g:=fun g hg hFg=>by
       have:=(hev.low hg).1
       have:=HF.out g hFg
       omega
     have hw3:Touch F w w3:=Touch.of_new HB3.out
     have hv1:∀ g,(Value.slice A1 m1 c1').ownBlock=some g→F g∨w.heap.size≤g:=fun g hg=>by
       rcases HA.out with e|e
       ·exact .inl (HG2.out g (by rw[← e];exact hg))
       ·rw[e] at hg
        injection hg with hg
        have h1:=HT5.out.size
        simp at hg
        have h2:w4.drew.heap.size=w4.heap.size:=rfl
        exact .inr (by omega)
     first
       | (have hT7:=hT6.setCell (p:=⟨b,1,none⟩) (.inl hbF2) (.int .i64 2)
          exact ⟨ve,rfl,(hev.mono hz1).keep hT7 hevF,hw3.trans hT7 (fun _ _ h=>h),⟨_,G',H6.may 2,HD4.out,hv1⟩⟩)
       | (have hT7:=(hT6.setCell (p:=⟨b,1,none⟩) (.inl hbF2) (.int .i64 2)).setCell (p:=⟨b,1,none⟩) (.inl hbF2) (.int .i64 4)
          exact ⟨ve,rfl,(hev.mono hz1).keep hT7 hevF,hw3.trans hT7 (fun _ _ h=>h),⟨_,G',(H6.may 2).may 4,HD4.out,hv1⟩⟩)
end
end
section
open Go.RowKit
section
variable {w w':World} {b:Nat} {F G:Nat→Prop} {m y wi:Int} {l:List Bool} {lv:List Lvl} {v:Value}
def endL:List Lvl→List Lvl
 | []=>[]
 | x :: r=>⟨x.fr,x.many+1,[]⟩ :: r
theorem endValue_any {op:List Bool} {lo:List Lvl} (h:NR w b F m y wi op.reverse lo.reverse) (hl:op.length=lo.length) (h5:op.length≤5000) (hm:∀ x∈lo,x.many≤2000000000) :
   Calls Tryz.prog 78 #[.pointer (some ⟨b,0,none⟩)] w fun e w'=>e=.returned (.tuple #[])∧Aft F w w' b m (if op.isEmpty then 7 else 6) wi op.reverse (endL lo).reverse:=by
 cases op with
 | nil =>
   obtain rfl:lo=[]:=List.eq_nil_of_length_eq_zero hl.symm
   refine (endValue_none h).mono ?_
   rintro e w' ⟨rfl,rfl⟩
   exact ⟨rfl,(Touch.refl F w).setCell (p:=⟨b,1,none⟩) (.inl h.has.1) _,(h.may 7).mono (fun k _ hk=>.inl hk)⟩
 | cons o op =>
   cases lo with
   | nil=>cases hl
   | cons x lo =>
     have hk:(x :: lo).reverse.length=lo.length+1:=by simp
     have hx:(x :: lo).reverse[lo.length]?=some x:=by simp
     have:=endValue_some h lo.length x (by simp at hl h5;omega) (by simp at hl ⊢;omega) hk hx (hm x (by simp))
     have e:(x :: lo).reverse.set lo.length ⟨x.fr,x.many+1,[]⟩=(endL (x :: lo)).reverse:=by simp[endL]
     rw[e] at this
     exact this
theorem leave_any2 {op:List Bool} {lo:List Lvl} {o:Bool} {x:Lvl} (h:NR w b F m y wi (o :: op).reverse (x :: lo).reverse) (hl:op.length=lo.length) (h5:op.length≤4999) :
   Calls Tryz.prog 86 #[.pointer (some ⟨b,0,none⟩)] w fun e w'=>e=.returned (.int .i64 x.fr)∧Aft F w w' b m y wi op.reverse lo.reverse:=by
 have:=leave_nest h lo.length x (by omega) (by simp;omega) (by simp) (by simp)
 have e1:(o :: op).reverse.dropLast=op.reverse:=by simp
 have e2:(x :: lo).reverse.take lo.length=lo.reverse:=by simp
 rw[e1,e2] at this
 exact this
def stR:List Bool→List Lvl→Stp
 | o :: _,x :: _=>if o then ⟨true,x.name,0⟩ else ⟨false,[],x.many⟩
 | _,_=>⟨false,[],0⟩
theorem stL_rev (op:List Bool) (lo:List Lvl):stL op.reverse lo.reverse=stR op lo:=by
 cases op with
 | nil=>simp[stL,stR]
 | cons o op =>
   cases lo with
   | nil=>cases o<;>simp[stL,stR]
   | cons x lo=>cases o<;>simp[stL,stR]
theorem close_no (h : NR w b F m y wi l lv) (t:Tok) (h5:l.length≤5000) (hv:(y==2||y==4||y==6)=false∨(l.getLast?.getD false != (t.kind==5))=true) :
   Calls Tryz.prog 55 #[.pointer (some ⟨b,0,none⟩),.agg (tokCells t).toArray] w fun e w'=>e=.returned (.tuple #[.slice none 0 0,.int .i64 (if y==7 then 9 else 8)])∧Below w.heap.size w w':=by
 have HV:=hid (fun w' (hb:Below w.heap.size w w')=>endMay_any b y w' (h.below hb).c1)
 have HR:=hid (fun w' (hb:Below w.heap.size w w')=>refuse_any b y w' (h.below hb).c1)
 have HT:=hid (show ∀ w',Below w.heap.size w w'→Calls Tryz.prog 84 #[.pointer (some ⟨b,3,none⟩)] w' (fun e w2=>e=.returned (.tuple #[.bool (l.getLast?.getD false),.bool (decide (0<l.length))]) ∧ ∃ q,w2=w'.drewN q) from fun w' hb=>by
   obtain ⟨v,G,h',_⟩:=h.below hb
   exact KB.top_any b G l w' h'.stk h5)
 generalize l.getLast?.getD false=o at *
 generalize decide (0<l.length)=z at *
 obtain ⟨kd,bg,fr,to,tx⟩:=t
 have hv:(y==2||y==4||y==6)=false∨(o != (kd==5))=true:=hv
 clear h
 show Calls _ _ #[.pointer (some ⟨b,0,none⟩),.agg #[.int .i64 kd,.bool bg,.int .i64 fr,.int .i64 to,.string ⟨tx.toArray⟩]] _ _
 generalize (if y==7 then (9:Int) else 8)=r at *
 have hO:∀ q,Own ((w.alloc (.cells #[.int .i64 kd,.bool bg,.int .i64 fr,.int .i64 to,.string ⟨tx.toArray⟩] 54)).drewN q) w.heap.size 54 _:=fun q=>Own.fresh w 54 #[.int .i64 kd,.bool bg,.int .i64 fr,.int .i64 to,.string ⟨tx.toArray⟩]
 have HO:=hid hO
 clear hO
 generalize hb1:(y==2||y==4||y==6)=b1 at *
 cases b1
 ·clear hv
  go_enter Tryz.func55,Tryz.ntmps55
  go_wp2_with (first
    | (go_at_call 84;refine (HT.out _ (bel1 w _)).mono ?_;rintro e w' ⟨rfl,q,rfl⟩)
    | (go_at_call 85;refine (HV.out _ (bel_drew (bel1 w _) _)).mono ?_;rintro e w' ⟨rfl,rfl⟩)
    | (go_at_call 58;refine (HR.out _ (bel_drew (bel1 w _) _)).mono ?_;rintro e w' ⟨rfl,rfl⟩))
  go_ret2
  exact ⟨rfl,bel_drew (bel1 w _) _⟩
 ·have hv2 : (o != (kd == 5)) = true := by rcases hv with hv|hv;· cases hv
                                           ·exact hv
  clear hv
  have hv3:(!o==(kd==5))=true:=by
    cases o<;>cases hk:(kd==5)<;>rw[hk] at hv2<;>first|rfl|cases hv2
  go_enter Tryz.func55,Tryz.ntmps55
  go_wp2_with (first
    | (go_at_call 84;refine (HT.out _ (bel1 w _)).mono ?_;rintro e w' ⟨rfl,q,rfl⟩)
    | (go_at_call 85;refine (HV.out _ (bel_drew (bel1 w _) _)).mono ?_;rintro e w' ⟨rfl,rfl⟩)
    | (go_at_call 58;refine (HR.out _ (bel_drew (bel1 w _) _)).mono ?_;rintro e w' ⟨rfl,rfl⟩))
  go_ret2
  exact ⟨rfl,bel_drew (bel1 w _) _⟩
theorem close_yes {op:List Bool} {lo:List Lvl} {o:Bool} {x:Lvl} (h:NR w b F m y wi (o :: op).reverse (x :: lo).reverse) (hF:∀ k,F k→k<w.heap.size) (t:Tok) (hl:op.length=lo.length) (h5:op.length≤4990) (hm:∀ x∈lo,x.many≤2000000000) (hv:(y==2||y==4||y==6)=true) (ho:(t.kind==5)=o) :
   Calls Tryz.prog 55 #[.pointer (some ⟨b,0,none⟩),.agg (tokCells t).toArray] w fun e w' => ∃ v,e=.returned (.tuple #[v,.int .i64 0])∧GRow evK w' w.heap.size v [⟨2,if o then 5 else 4,x.fr,t.to,stR op lo,[]⟩]∧Aft F w w' b m (if op.isEmpty then 7 else 6) wi op.reverse (endL lo).reverse:=by
 have HV:=hid (fun w' (hb:Below w.heap.size w w')=>endMay_any b y w' (h.below hb).c1)
 simp only [hv] at HV
 have hlast:(o :: op).reverse.getLast?.getD false=o:=by simp
 have HT:=hid (show ∀ w',Below w.heap.size w w'→Calls Tryz.prog 84 #[.pointer (some ⟨b,3,none⟩)] w' (fun e w2=>e=.returned (.tuple #[.bool o,.bool (decide (0<(o :: op).reverse.length))]) ∧ ∃ q,w2=w'.drewN q) from fun w' hb=>by
   obtain ⟨v,G,h',_⟩:=h.below hb
   have:=KB.top_any b G _ w' h'.stk (by simp;omega)
   rwa [hlast] at this)
 generalize decide (0<(o :: op).reverse.length)=z at *
 have HEnd:=hid (fun (F:Nat→Prop) (w:World) (h:NR w b F m y wi op.reverse lo.reverse)=>endValue_any h hl (by omega) hm)
 have HK:=hid (kindOf_is o)
 generalize (if op.isEmpty=true then (7:Int) else 6)=y7 at *
 generalize (if o=true then (5:Int) else 4)=kv at *
 have HLv:=hid (fun w' (hb:Below w.heap.size w w')=>leave_any2 (h.below hb) hl (by omega))
 have HF:=hid hF
 have HL:=hid hl
 have HM:=hid hm
 obtain ⟨kd,bg,fr,to,tx⟩:=t
 have hkd:(kd==5)=o:=ho
 have hv3:(!o==(kd==5))=false:=by rw[hkd];cases o<;>rfl
 clear h hv hl hF hm ho hlast
 show Calls _ _ #[.pointer (some ⟨b,0,none⟩),.agg #[.int .i64 kd,.bool bg,.int .i64 fr,.int .i64 to,.string ⟨tx.toArray⟩]] _ _
 go_enter Tryz.func55,Tryz.ntmps55
 go_wp2_with (first
   | (go_at_call 84;refine (HT.out _ (bel1 w _)).mono ?_;rintro e w' ⟨rfl,q,rfl⟩)
   | (go_at_call 85;refine (HV.out _ (bel_drew (bel1 w _) _)).mono ?_;rintro e w' ⟨rfl,rfl⟩)
   | (go_at_call 86;refine (HLv.out _ (bel_drew (bel1 w _) _)).mono ?_;rintro e w3 ⟨rfl,ht3,hn3⟩
      have hb2:Below w.heap.size w ((w.alloc (.cells #[.int .i64 kd,.bool bg,.int .i64 fr,.int .i64 to,.string ⟨tx.toArray⟩] 54)).drewN q):=bel_drew (bel1 w _) q
      have hO2:Own ((w.alloc (.cells #[.int .i64 kd,.bool bg,.int .i64 fr,.int .i64 to,.string ⟨tx.toArray⟩] 54)).drewN q) w.heap.size 54 _:=Own.fresh w 54 #[.int .i64 kd,.bool bg,.int .i64 fr,.int .i64 to,.string ⟨tx.toArray⟩]
      generalize (w.alloc (.cells #[.int .i64 kd,.bool bg,.int .i64 fr,.int .i64 to,.string ⟨tx.toArray⟩] 54)).drewN q=w2 at *
      have HB2:=hid hb2
      have HT3:=hid ht3
      have HN3:=hid hn3
      have hO3:=ht3.own hO2 (fun hj=>by have:=HF.out _ hj;omega)
      have n3:=hO3.at 3
      simp at n3
      clear hb2 hO2 ht3 hn3 hO3))
 refine wp_region_still_tail 7 (by kernel_rfl) (by kernel_rfl) ?_
 simp only [List.take_succ_cons,List.take_zero,List.drop_succ_cons,List.drop_zero]
 iterate 2 still_step
 still_call (HK.out w3.drew)
 repeat still_step
 refine wpStill_nil ?_
 change wpList _ _ _ _ _ w3.drew
 have HN4:=hid (show NR w3.drew b _ m y wi _ _ from HN3.out.drewN 1)
 have HT4:=hid (show Touch F w2 w3.drew from HT3.out.drewN 1)
 clear n3 HN3 HT3
 generalize w3.drew=w4 at *
 have HE:=hid (show Calls Tryz.prog 77 #[.pointer (some ⟨b,0,none⟩),.agg #[.int .i64 2,.int .i64 kv,.int .i64 x.fr,.int .i64 to,.bool false,.string ⟨#[]⟩,.int .i64 0,.string ⟨#[]⟩]] w4 (fun e' w5 => ∃ v,e'=.returned v∧GRow evK w5 w4.heap.size v [⟨2,kv,x.fr,to,stL op.reverse lo.reverse,[]⟩]∧Below w4.heap.size w4 w5)
   from events_any HN4.out (by simp[HL.out]) (by simp;omega) ⟨2,kv,x.fr,to,⟨false,[],0⟩,[]⟩)
 go_wp2_with (first
   | (go_at_call 77;refine HE.out.mono ?_;rintro e w5 ⟨ve,rfl,hev,hb5⟩
      have HEV:=hid hev
      have HB5:=hid hb5
      have HN5:=hid (HN4.out.cut.below hb5)
      clear hev hb5)
   | (go_at_call 78;refine (HEnd.out _ _ HN5.out).mono ?_;rintro e w6 ⟨rfl,ht6,hn6⟩
      have HT6:=hid ht6
      have HN6:=hid hn6
      clear ht6 hn6))
 go_ret2
 have hz2:=HB2.out.size
 have hz4:=HT4.out.size
 have hz5:=HB5.out.size
 have hev:=HEV.out
 rw[stL_rev] at hev
 have hevF:∀ g,ve.ownBlock=some g→¬ ((F g∨w2.heap.size≤g)∧g<w4.heap.size):=fun g hg hFg=>by
   have:=(hev.low hg).1
   omega
 have hT:Touch F w w4:=(Touch.of_new HB2.out).trans HT4.out (fun _ _ h=>h)
 have hT5:Touch F w w5:=hT.trans (Touch.of_new (F:=F) HB5.out) (fun _ _ h=>h)
 have hT6:Touch F w w6:=hT5.trans HT6.out (fun j hj hh=>by
   rcases hh.1 with hh|hh
   ·exact hh
   ·omega)
 exact ⟨ve,rfl,(hev.mono (by omega)).keep HT6.out hevF,hT6,HN6.out.mono (fun j _ hh=>by
   rcases hh with hh|hh
   ·rcases hh.1 with hh|hh
    ·exact .inl hh
    ·exact .inr (by omega)
   ·exact .inr (by omega))⟩
end
end
section
open Go.RowKit
section
variable {w w':World} {b:Nat} {F G:Nat→Prop} {m y wi:Int} {l:List Bool} {lv:List Lvl} {v:Value}
theorem comma_no (h:NR w b F m y wi l lv) (hy:y≠6) :
   Calls Tryz.prog 56 #[.pointer (some ⟨b,0,none⟩)] w fun e w'=>e=.returned (.tuple #[.slice none 0 0,.int .i64 (if y==7 then 9 else 8)])∧w'=w:=by
 have HR:=hid (refuse_any b y w h.c1)
 have c1:=h.c1
 have hy':(y != 6)=true:=bne_iff_ne.2 hy
 generalize (if y==7 then (9:Int) else 8)=r at *
 clear h hy
 go_enter Tryz.func56,Tryz.ntmps56
 go_wp2_with (go_at_call 58;refine HR.out.mono ?_;rintro e w' ⟨rfl,rfl⟩)
 go_ret2
 exact ⟨rfl,rfl⟩
theorem comma_yes (h:NR w b F m 6 wi l lv) (o:Bool) (ho:l.getLast?.getD false=o) (h5:l.length≤5000) :
   Calls Tryz.prog 56 #[.pointer (some ⟨b,0,none⟩)] w fun e w'=>e=.returned (.tuple #[.slice none 0 0,.int .i64 0])∧Aft F w w' b m (if o then 3 else 1) wi l lv:=by
 have c1:=h.c1
 have f1:=h.free 1
 have hF:=h.has.1
 have h1:=h.may 1
 have HT:=hid (show Calls Tryz.prog 84 #[.pointer (some ⟨b,3,none⟩)] (w.setCell ⟨b,1,none⟩ (.int .i64 1)) (fun e w2=>e=.returned (.tuple #[.bool o,.bool (decide (0<l.length))]) ∧ ∃ q,w2=(w.setCell ⟨b,1,none⟩ (.int .i64 1)).drewN q) from by
   obtain ⟨v,G,h',_⟩:=h1
   have:=KB.top_any b G l _ h'.stk h5
   rwa [ho] at this)
 have HN:=hid h1
 have HT1:=hid ((Touch.refl F w).setCell (p:=⟨b,1,none⟩) (.inl hF) (.int .i64 1))
 generalize decide (0<l.length)=z at *
 clear h ho h1
 cases o
 all_goals
   go_enter Tryz.func56,Tryz.ntmps56
   go_wp2_with (
     go_at_call 84;refine HT.out.mono ?_;rintro e w' ⟨rfl,q,rfl⟩
     have HN2:=hid (HN.out.drewN q)
     have HT2:=hid (HT1.out.drewN q)
     have d1:=HN2.out.c1
     have g1:=HN2.out.free 1
     clear HT
     generalize (w.setCell ⟨b,1,none⟩ (.int .i64 1)).drewN q=w2 at *)
   go_ret2
   first
     | exact ⟨rfl,HT2.out,HN2.out.mono (fun k _ hk=>.inl hk)⟩
     | exact ⟨rfl,HT2.out.setCell (p:=⟨b,1,none⟩) (.inl hF) _,(HN2.out.may 3).mono (fun k _ hk=>.inl hk)⟩
theorem colon_no (h:NR w b F m y wi l lv) (hy:y≠5) :
   Calls Tryz.prog 57 #[.pointer (some ⟨b,0,none⟩)] w fun e w'=>e=.returned (.tuple #[.slice none 0 0,.int .i64 (if y==7 then 9 else 8)])∧w'=w:=by
 have HR:=hid (refuse_any b y w h.c1)
 have c1:=h.c1
 have hy':(y != 5)=true:=bne_iff_ne.2 hy
 generalize (if y==7 then (9:Int) else 8)=r at *
 clear h hy
 go_enter Tryz.func57,Tryz.ntmps57
 go_wp2_with (go_at_call 58;refine HR.out.mono ?_;rintro e w' ⟨rfl,rfl⟩)
 go_ret2
 exact ⟨rfl,rfl⟩
theorem colon_yes (h:NR w b F m 5 wi l lv) :
   Calls Tryz.prog 57 #[.pointer (some ⟨b,0,none⟩)] w fun e w'=>e=.returned (.tuple #[.slice none 0 0,.int .i64 0])∧Aft F w w' b m 1 wi l lv:=by
 have c1:=h.c1
 have f1:=h.free 1
 have hF:=h.has.1
 have HN:=hid (h.may 1)
 clear h
 go_enter Tryz.func57,Tryz.ntmps57
 go_wp2
 go_ret2
 exact ⟨rfl,(Touch.refl F w).setCell (p:=⟨b,1,none⟩) (.inl hF) _,HN.out.mono (fun k _ hk=>.inl hk)⟩
theorem begunKind_is (k:Int) (hk:k=8∨k=9∨k=10) (w:World):Calls Tryz.prog 79 #[.int .i64 k] w fun e w'=>e=.returned (.tuple #[.int .i64 (beginK k),.bool true])∧w=w':=by
 have:=begunKind_any k w
 rcases hk with rfl|rfl|rfl<;>exact this
theorem beginN_no (h:NR w b F m y wi l lv) (t:Tok) (hk:t.kind=8∨t.kind=9∨t.kind=10) (hn:((y==3||y==4)&&t.kind==8)=false) (hv:(y==0||y==1||y==2)=false) :
   Calls Tryz.prog 53 #[.pointer (some ⟨b,0,none⟩),.agg (tokCells t).toArray] w fun e w'=>e=.returned (.tuple #[.slice none 0 0,.int .i64 (if y==7 then 9 else 8)])∧Below w.heap.size w w':=by
 have HV:=hid (fun w' (hb:Below w.heap.size w w')=>valueMay_any b y w' (h.below hb).c1)
 have HN:=hid (fun w' (hb:Below w.heap.size w w')=>nameMay_any b y w' (h.below hb).c1)
 have HR:=hid (fun w' (hb:Below w.heap.size w w')=>refuse_any b y w' (h.below hb).c1)
 have HK:=hid (begunKind_is t.kind hk)
 simp only [hv] at HV
 obtain ⟨kd,bg,fr,to,tx⟩:=t
 have hn:((y==3||y==4)&&kd==8)=false:=hn
 generalize (if y==7 then (9:Int) else 8)=r at *
 generalize (y==3||y==4)=nm at *
 have HK:Hid (∀ w:World,Calls Tryz.prog 79 #[.int .i64 kd] w fun e w'=>e=.returned (.tuple #[.int .i64 (beginK kd),.bool true])∧w=w'):=HK
 clear h hk hv
 show Calls _ _ #[.pointer (some ⟨b,0,none⟩),.agg #[.int .i64 kd,.bool bg,.int .i64 fr,.int .i64 to,.string ⟨tx.toArray⟩]] _ _
 cases nm
 all_goals
   first
     | (have hn':(kd==8)=false:=by simpa using hn)
     | skip
   clear hn
   go_enter Tryz.func53,Tryz.ntmps53
   go_wp2_with (first
     | (go_at_call 79;refine (HK.out _).mono ?_;rintro e w' ⟨rfl,rfl⟩)
     | (go_at_call 75;refine (HN.out _ (bel1 w _)).mono ?_;rintro e w' ⟨rfl,rfl⟩)
     | (go_at_call 80;refine (HV.out _ (bel1 w _)).mono ?_;rintro e w' ⟨rfl,rfl⟩)
     | (go_at_call 58;refine (HR.out _ (bel1 w _)).mono ?_;rintro e w' ⟨rfl,rfl⟩))
   go_ret2
   exact ⟨rfl,bel1 w _⟩
theorem begin_name (h:NR w b F m y wi l lv) (t:Tok) (hk:t.kind=8) (hn:(y==3||y==4)=true) :
   Calls Tryz.prog 53 #[.pointer (some ⟨b,0,none⟩),.agg (tokCells t).toArray] w fun e w'=>e=.returned (.tuple #[.slice none 0 0,.int .i64 0])∧Aft F w w' b m y 8 l lv:=by
 have HN:=hid (fun w' (hb:Below w.heap.size w w')=>nameMay_any b y w' (h.below hb).c1)
 have HK:=hid (begunKind_is 8 (.inl rfl))
 simp only [hn] at HN
 obtain ⟨kd,bg,fr,to,tx⟩:=t
 have hk:kd=8:=hk
 subst hk
 have hF:=h.has
 have h1:=h.below (bel1 w (.cells #[.int .i64 8,.bool bg,.int .i64 fr,.int .i64 to,.string ⟨tx.toArray⟩] 54))
 have c2:=h1.c2
 have f2:=h1.free 2
 have HH:=hid ((h.in 8).below (bel1 (w.setCell ⟨b,2,none⟩ (.int .i64 8)) (.cells #[.int .i64 8,.bool bg,.int .i64 fr,.int .i64 to,.string ⟨tx.toArray⟩] 54)))
 have hbN:b≠w.heap.size:=by omega
 clear h h1 hn
 show Calls _ _ #[.pointer (some ⟨b,0,none⟩),.agg #[.int .i64 8,.bool bg,.int .i64 fr,.int .i64 to,.string ⟨tx.toArray⟩]] _ _
 go_enter Tryz.func53,Tryz.ntmps53
 go_wp2_with (first
   | (go_at_call 79;refine (HK.out _).mono ?_;rintro e w' ⟨rfl,rfl⟩)
   | (go_at_call 75;refine (HN.out _ (bel1 w _)).mono ?_;rintro e w' ⟨rfl,rfl⟩))
 go_ret2
 exact ⟨rfl,((Touch.refl F w).setCell (p:=⟨b,2,none⟩) (.inl hF.1) (.int .i64 8)).alloc (.cells #[.int .i64 8,.bool bg,.int .i64 fr,.int .i64 to,.string ⟨tx.toArray⟩] 54),HH.out.mono (fun k _ hk=>Or.inl hk)⟩
theorem begin_value (h:NR w b F m y wi l lv) (hF:∀ k,F k→k<w.heap.size) (t:Tok) (hk:t.kind=8∨t.kind=9∨t.kind=10) (hl:l.length=lv.length) (h5:l.length≤5000) (hn:(y==3||y==4)=false) (hv:(y==0||y==1||y==2)=true) :
   Calls Tryz.prog 53 #[.pointer (some ⟨b,0,none⟩),.agg (tokCells t).toArray] w fun e w' => ∃ v,e=.returned (.tuple #[v,.int .i64 0])∧GRow evK w' w.heap.size v [⟨1,beginK t.kind,t.fr,0,stL l lv,[]⟩]∧Aft F w w' b m y t.kind l lv:=by
 have HV:=hid (fun w' (hb:Below w.heap.size w w')=>valueMay_any b y w' (h.below hb).c1)
 have HN:=hid (fun w' (hb:Below w.heap.size w w')=>nameMay_any b y w' (h.below hb).c1)
 have HK:=hid (begunKind_is t.kind hk)
 simp only [hv] at HV
 simp only [hn] at HN
 obtain ⟨kd,bg,fr,to,tx⟩:=t
 have HK:Hid (∀ w:World,Calls Tryz.prog 79 #[.int .i64 kd] w fun e w'=>e=.returned (.tuple #[.int .i64 (beginK kd),.bool true])∧w=w'):=HK
 show Calls _ _ #[.pointer (some ⟨b,0,none⟩),.agg #[.int .i64 kd,.bool bg,.int .i64 fr,.int .i64 to,.string ⟨tx.toArray⟩]] _ fun e w' => ∃ v,e=.returned (.tuple #[v,.int .i64 0])∧GRow evK w' w.heap.size v [⟨1,beginK kd,fr,0,stL l lv,[]⟩]∧Aft F w w' b m y kd l lv
 generalize beginK kd=bk at *
 have hFb:=h.has
 have h1:=h.below (bel1 w (.cells #[.int .i64 kd,.bool bg,.int .i64 fr,.int .i64 to,.string ⟨tx.toArray⟩] 54))
 have c2:=h1.c2
 have f2:=h1.free 2
 have HH:=hid ((h.in kd).below (bel1 (w.setCell ⟨b,2,none⟩ (.int .i64 kd)) (.cells #[.int .i64 kd,.bool bg,.int .i64 fr,.int .i64 to,.string ⟨tx.toArray⟩] 54)))
 have HF:=hid hF
 have hbN:b≠w.heap.size:=by omega
 have HE:=hid (show Calls Tryz.prog 77 #[.pointer (some ⟨b,0,none⟩),.agg #[.int .i64 1,.int .i64 bk,.int .i64 fr,.int .i64 0,.bool false,.string ⟨#[]⟩,.int .i64 0,.string ⟨#[]⟩]] ((w.setCell ⟨b,2,none⟩ (.int .i64 kd)).alloc (.cells #[.int .i64 kd,.bool bg,.int .i64 fr,.int .i64 to,.string ⟨tx.toArray⟩] 54)) (fun e' w5 => ∃ v,e'=.returned v∧GRow evK w5 ((w.setCell ⟨b,2,none⟩ (.int .i64 kd)).alloc (.cells #[.int .i64 kd,.bool bg,.int .i64 fr,.int .i64 to,.string ⟨tx.toArray⟩] 54)).heap.size v [⟨1,bk,fr,0,stL l lv,[]⟩]∧Below ((w.setCell ⟨b,2,none⟩ (.int .i64 kd)).alloc (.cells #[.int .i64 kd,.bool bg,.int .i64 fr,.int .i64 to,.string ⟨tx.toArray⟩] 54)).heap.size ((w.setCell ⟨b,2,none⟩ (.int .i64 kd)).alloc (.cells #[.int .i64 kd,.bool bg,.int .i64 fr,.int .i64 to,.string ⟨tx.toArray⟩] 54)) w5)
   from events_any HH.out hl h5 ⟨1,bk,fr,0,⟨false,[],0⟩,[]⟩)
 clear h h1 hn hv hk hF
 go_enter Tryz.func53,Tryz.ntmps53
 go_wp2_with (first
   | (go_at_call 79;refine (HK.out _).mono ?_;rintro e w' ⟨rfl,rfl⟩)
   | (go_at_call 75;refine (HN.out _ (bel1 w _)).mono ?_;rintro e w' ⟨rfl,rfl⟩)
   | (go_at_call 80;refine (HV.out _ (bel1 w _)).mono ?_;rintro e w' ⟨rfl,rfl⟩)
   | (go_at_call 77;refine HE.out.mono ?_;rintro e w5 ⟨ve,rfl,hev,hb5⟩;have HEV:=hid hev;have HB5:=hid hb5;clear hev hb5))
 go_ret2
 have ht:=((Touch.refl F w).setCell (p:=⟨b,2,none⟩) (.inl hFb.1) (.int .i64 kd)).alloc (.cells #[.int .i64 kd,.bool bg,.int .i64 fr,.int .i64 to,.string ⟨tx.toArray⟩] 54)
 exact ⟨ve,rfl,HEV.out.mono ht.size,ht.trans (Touch.of_new (F:=F) HB5.out) (fun _ _ h=>h),(HH.out.below HB5.out).mono (fun k _ hk=>.inl hk)⟩
end
end
section
open Go.RowKit
theorem word_kind (tx:List UInt8) (h:tx=lT∨tx=lF∨tx=lN) (W:World) (hT:Tab W) :
   Calls Tryz.prog 101 #[.string ⟨tx.toArray⟩] W fun e w'=>e=.returned (.tuple #[.int .i64 (if tx=lN then 0 else 1),.bool true])∧Below W.heap.size W w':=by
 rcases h with rfl|rfl|rfl
 ·rw[if_neg (by decide)];exact kind_t W hT
 ·rw[if_neg (by decide)];exact kind_f W hT
 ·rw[if_pos rfl];exact kind_n W hT
theorem ended_word (t:Tok) (hk:t.kind=10) (h:t.text=lT∨t.text=lF∨t.text=lN) (W:World) (hT:Tab W) :
   Calls Tryz.prog 74 #[.agg (tokCells t).toArray] W fun e w'=>e=.returned (.tuple #[.int .i64 (scalarK t),.bool true])∧Below W.heap.size W w':=by
 obtain ⟨kd,bg,fr,to,tx⟩:=t
 have hk:kd=10:=hk
 subst hk
 have hs:scalarK ⟨10,bg,fr,to,tx⟩=if tx=lN then 0 else 1:=rfl
 rw[hs]
 have h0:=hT.elim fun _ h=>h.inside
 have HK:=hid (word_kind tx h (W.alloc (.cells #[.int .i64 10,.bool bg,.int .i64 fr,.int .i64 to,.string ⟨tx.toArray⟩] 54)) (hT.stay (bel1 W _) h0))
 generalize (if tx=lN then (0:Int) else 1)=r at *
 clear h hs
 show Calls _ _ #[.agg #[.int .i64 10,.bool bg,.int .i64 fr,.int .i64 to,.string ⟨tx.toArray⟩]] _ _
 go_enter Tryz.func74,Tryz.ntmps74
 go_wp2_with (go_at_call 101;refine HK.out.mono ?_;rintro e w' ⟨rfl,hb⟩)
 go_ret2
 exact ⟨rfl,(bel1 W _).trans (hb.mono (by simp))⟩
theorem ended_else (t:Tok) (hk:t.kind=8∨t.kind=9) (W:World) :
   Calls Tryz.prog 74 #[.agg (tokCells t).toArray] W fun e w'=>e=.returned (.tuple #[.int .i64 (scalarK t),.bool true])∧Below W.heap.size W w':=by
 obtain ⟨kd,bg,fr,to,tx⟩:=t
 have hk:kd=8∨kd=9:=hk
 have hs:scalarK ⟨kd,bg,fr,to,tx⟩=beginK kd:=by rcases hk with rfl|rfl<;>rfl
 rw[hs]
 have HB:=hid (begunKind_is kd (by omega))
 have hne:(kd==10)=false:=beq_eq_false_iff_ne.2 (by omega)
 generalize beginK kd=r at *
 clear hk hs
 show Calls _ _ #[.agg #[.int .i64 kd,.bool bg,.int .i64 fr,.int .i64 to,.string ⟨tx.toArray⟩]] _ _
 go_enter Tryz.func74,Tryz.ntmps74
 go_wp2_with (go_at_call 79;refine (HB.out _).mono ?_;rintro e w' ⟨rfl,rfl⟩)
 go_ret2
 exact ⟨rfl,bel1 W _⟩
theorem ended_any (t:Tok) (hk:t.kind=8∨t.kind=9∨t.kind=10) (h:t.kind=10→t.text=lT∨t.text=lF∨t.text=lN) (W:World) (hT:Tab W) :
   Calls Tryz.prog 74 #[.agg (tokCells t).toArray] W fun e w'=>e=.returned (.tuple #[.int .i64 (scalarK t),.bool true])∧Below W.heap.size W w':=by
 rcases hk with hk|hk|hk
 ·exact ended_else t (.inl hk) W
 ·exact ended_else t (.inr hk) W
 ·exact ended_word t hk (h hk) W hT
section
variable {w w':World} {b:Nat} {F G:Nat→Prop} {m y wi:Int} {l:List Bool} {lv:List Lvl} {v:Value}
theorem end_value {op:List Bool} {lo:List Lvl} (h:NR w b F m y wi op.reverse lo.reverse) (hF:∀ k,F k→k<w.heap.size) (hT:Tab w) (t:Tok) (hb:t.begun=false) (hw:t.kind=wi) (hk:t.kind=8∨t.kind=9∨t.kind=10) (ht:t.kind=10→t.text=lT∨t.text=lF∨t.text=lN)
   (hl:op.length=lo.length) (h5:op.length≤4990) (hm:∀ x∈lo,x.many≤2000000000) (hn:(y==3||y==4)=false) :
   Calls Tryz.prog 52 #[.pointer (some ⟨b,0,none⟩),.agg (tokCells t).toArray] w fun e w' => ∃ v,e=.returned (.tuple #[v,.int .i64 0])∧GRow evK w' w.heap.size v [⟨2,scalarK t,t.fr,t.to,stR op lo,t.text⟩]∧Aft F w w' b m (if op.isEmpty then 7 else 6) 0 op.reverse (endL lo).reverse:=by
 have h0:=hT.elim fun _ h=>h.inside
 have HEK:=hid (fun w' (hb:Below w.heap.size w w')=>ended_any t hk ht w' (hT.stay hb h0))
 have HEnd:=hid (fun (F:Nat→Prop) (w:World) (h:NR w b F m y 0 op.reverse lo.reverse)=>endValue_any h hl (by omega) hm)
 generalize (if op.isEmpty=true then (7:Int) else 6)=y7 at *
 have HH:=hid (fun w' (hb:Below w.heap.size w w')=>h.below hb)
 have hFb:=h.has
 have HF:=hid hF
 have HL:=hid hl
 have HN:=hid (fun (w':World) (h:NR w' b F m y 0 op.reverse lo.reverse)=>nameMay_any b y w' h.c1)
 simp only [hn] at HN
 obtain ⟨kd,bg,fr,to,tx⟩:=t
 have hb:bg=false:=hb
 have hw:kd=wi:=hw
 subst hb hw
 have HEK:Hid (∀ w',Below w.heap.size w w'→Calls Tryz.prog 74 #[.agg #[.int .i64 kd,.bool false,.int .i64 fr,.int .i64 to,.string ⟨tx.toArray⟩]] w' fun e w2=>e=.returned (.tuple #[.int .i64 (scalarK ⟨kd,false,fr,to,tx⟩),.bool true])∧Below w'.heap.size w' w2):=HEK
 show Calls _ _ #[.pointer (some ⟨b,0,none⟩),.agg #[.int .i64 kd,.bool false,.int .i64 fr,.int .i64 to,.string ⟨tx.toArray⟩]] _ fun e w' => ∃ v,e=.returned (.tuple #[v,.int .i64 0])∧GRow evK w' w.heap.size v [⟨2,scalarK ⟨kd,false,fr,to,tx⟩,fr,to,stR op lo,tx⟩]∧Aft F w w' b m y7 0 op.reverse (endL lo).reverse
 generalize scalarK ⟨kd,false,fr,to,tx⟩=sk at *
 have hne:(kd != kd)=false:=by simp
 have hbN:b≠w.heap.size:=by omega
 clear h hk ht hl hm hn hF hT
 go_enter Tryz.func52,Tryz.ntmps52
 go_wp2_with (
   go_at_call 74;refine (HEK.out _ (bel1 w _)).mono ?_;rintro e w2 ⟨rfl,hb2⟩
   have hB2:Below w.heap.size w w2:=(bel1 w _).trans (hb2.mono (by simp))
   have hO:=(Own.fresh w 54 #[.int .i64 kd,.bool false,.int .i64 fr,.int .i64 to,.string ⟨tx.toArray⟩]).stay hb2 (by simp)
   have n0:=hO.at 0
   have n1:=hO.at 1
   simp at n0 n1
   have HO:=hid hO
   have HB:=hid hB2
   have h2:=HH.out w2 hB2
   have c2:=h2.c2
   have f2:=h2.free 2
   clear hO hB2 hb2 h2)
 go_quiet (fail)
 have d2:(w2.drewN nq).cell? ⟨b,2,none⟩=some (.int .i64 kd):=c2
 have g2:(w2.drewN nq).frozen? ⟨b,2,none⟩=false:=f2
 have HB3:=hid (bel_drew HB.out nq)
 have HO3:=hid (show Own (w2.drewN nq) w.heap.size 54 _ from HO.out)
 clear c2 f2 n0 n1 HB HO
 generalize w2.drewN nq=w3 at *
 have HN3:=hid (HH.out w3 HB3.out)
 go_wp2_with (first
   | (go_at_call 75;refine (HN.out _ (HN3.out.in 0)).mono ?_;rintro e w' ⟨rfl,rfl⟩
      have HN4:=hid (HN3.out.in 0)
      have HT4:=hid ((Touch.of_new (F:=F) HB3.out).setCell (p:=⟨b,2,none⟩) (.inl hFb.1) (.int .i64 0))
      have O4:=HO3.out.past (p:=⟨b,2,none⟩) (Ne.symm hbN) (.int .i64 0)
      clear d2 g2 HN3 HO3 HB3
      generalize w3.setCell ⟨b,2,none⟩ (.int .i64 0)=w4 at *
      have n2:=O4.at 2
      have n3:=O4.at 3
      have n4:=O4.at 4
      simp at n2 n3 n4
      clear O4)
   | (go_at_call 77
      refine (show Calls Tryz.prog 77 #[.pointer (some ⟨b,0,none⟩),.agg #[.int .i64 2,.int .i64 sk,.int .i64 fr,.int .i64 to,.bool false,.string ⟨#[]⟩,.int .i64 0,.string ⟨tx.toArray⟩]] w4 (fun e' w5 => ∃ v,e'=.returned v∧GRow evK w5 w4.heap.size v [⟨2,sk,fr,to,stL op.reverse lo.reverse,tx⟩]∧Below w4.heap.size w4 w5) from events_any HN4.out (by simp[HL.out]) (by simp;omega) ⟨2,sk,fr,to,⟨false,[],0⟩,tx⟩).mono ?_
      rintro e w5 ⟨ve,rfl,hev,hb5⟩
      have HEV:=hid hev
      have HB5:=hid hb5
      have HN5:=hid ((HN4.out.mono (H:=fun j=>F j∧j<w.heap.size) (fun j _ hj=>⟨hj,HF.out j hj⟩)).below hb5)
      clear hev hb5)
   | (go_at_call 78;refine (HEnd.out _ _ (HN5.out.mono (H:=F) (fun j _ hj=>hj.1))).mono ?_;rintro e w6 ⟨rfl,ht6,hn6⟩
      have HT6:=hid ht6
      have HN6:=hid hn6
      clear ht6 hn6))
 go_ret2
 have hz4:=HT4.out.size
 have hz5:=HB5.out.size
 have hev:=HEV.out
 rw[stL_rev] at hev
 have hevF:∀ g,ve.ownBlock=some g→¬ F g:=fun g hg hFg=>by
   have:=(hev.low hg).1
   have:=HF.out g hFg
   omega
 have hT5:Touch F w w5:=HT4.out.trans (Touch.of_new (F:=F) HB5.out) (fun _ _ h=>h)
 exact ⟨ve,rfl,(hev.mono hz4).keep HT6.out hevF,hT5.trans HT6.out (fun _ _ h=>h),HN6.out.mono (fun j _ hh=>by
   rcases hh with hh|hh
   ·exact Or.inl hh
   ·exact Or.inr (by omega))⟩
theorem NRaw.nameput {g n c k:Nat} {x:Lvl} (h:NRaw w b m y wi l lv (.slice (some ⟨g,0,none⟩) n c) G) (hx:lv[k]?=some x) (s:List UInt8) :
   NRaw (w.setCell ⟨g,k*3+2,none⟩ (.string ⟨s.toArray⟩)) b m y wi l (lv.set k ⟨x.fr,x.many,s⟩) (.slice (some ⟨g,0,none⟩) n c) G:=by
 have hg:=h.off g rfl
 have ht:Touch (fun j=>j=g) w (w.setCell ⟨g,k*3+2,none⟩ (.string ⟨s.toArray⟩)):=(Touch.refl (fun j=>j=g) w).setCell (p:=⟨g,k*3+2,none⟩) (.inl rfl) _
 have:=h.row.putAt (i:=k) (j:=2) (a:=⟨x.fr,x.many,s⟩) (u:=.string ⟨s.toArray⟩) hx (by decide) rfl
 exact ⟨StP.move h.stk ht (fun j hj e=>hg (e▸hj)),by simpa [show lvK.n=3 from rfl] using this,h.off⟩
theorem end_name {op:List Bool} {lo:List Lvl} {o:Bool} {x:Lvl} (h:NR w b F m y wi (o :: op).reverse (x :: lo).reverse) (hF:∀ k,F k→k<w.heap.size) (hT:Tab w) (t:Tok) (hb:t.begun=false) (hw:t.kind=wi) (hk:t.kind=8∨t.kind=9∨t.kind=10) (ht:t.kind=10→t.text=lT∨t.text=lF∨t.text=lN)
   (hl:op.length=lo.length) (h5:op.length≤4990) (hn:(y==3||y==4)=true) :
   Calls Tryz.prog 52 #[.pointer (some ⟨b,0,none⟩),.agg (tokCells t).toArray] w fun e w'=>e=.returned (.tuple #[.slice none 0 0,.int .i64 0])∧Aft F w w' b m 5 0 (o :: op).reverse (⟨x.fr,x.many,t.text⟩ :: lo).reverse:=by
 have h0:=hT.elim fun _ h=>h.inside
 have HEK:=hid (fun w' (hb:Below w.heap.size w w')=>ended_any t hk ht w' (hT.stay hb h0))
 have hFb:=h.has
 have HF:=hid hF
 have HN:=hid (fun (w':World) (c1:w'.cell? ⟨b,1,none⟩=some (.int .i64 y))=>nameMay_any b y w' c1)
 simp only [hn] at HN
 obtain ⟨v,G,h,hG1,hG2⟩:=h
 have HKK:=hid (show (x :: lo).reverse.length=lo.length+1 by simp)
 have HX:=hid (show (x :: lo).reverse[lo.length]?=some x by simp)
 have HS:=hid (show ∀ z:Lvl,(x :: lo).reverse.set lo.length z=(z :: lo).reverse by intro z;simp)
 have h5k:lo.length≤5000:=by omega
 generalize (x :: lo).reverse=lv at *
 generalize (o :: op).reverse=l at *
 generalize lo.length=k at *
 obtain ⟨g,c,rfl,hc,hg,hgb,hG,_⟩:=h.last HKK.out HX.out
 have HM:=hid (fun w' (hb:Below w.heap.size w w')=>h.move (Touch.of_new (F:=fun _=>False) hb) (fun _ _ h=>h) (fun _ _ h=>h))
 have HG1:=hid hG1
 have hFg:=hG2 g rfl
 have HG2:=hid hG2
 obtain ⟨kd,bg,fr,to,tx⟩:=t
 have hb:bg=false:=hb
 have hw:kd=wi:=hw
 subst hb hw
 have HEK:Hid (∀ w',Below w.heap.size w w'→Calls Tryz.prog 74 #[.agg #[.int .i64 kd,.bool false,.int .i64 fr,.int .i64 to,.string ⟨tx.toArray⟩]] w' fun e w2=>e=.returned (.tuple #[.int .i64 (scalarK ⟨kd,false,fr,to,tx⟩),.bool true])∧Below w'.heap.size w' w2):=HEK
 show Calls _ _ #[.pointer (some ⟨b,0,none⟩),.agg #[.int .i64 kd,.bool false,.int .i64 fr,.int .i64 to,.string ⟨tx.toArray⟩]] _ fun e w'=>e=.returned (.tuple #[.slice none 0 0,.int .i64 0])∧Aft F w w' b m 5 0 l (⟨x.fr,x.many,tx⟩ :: lo).reverse
 generalize scalarK ⟨kd,false,fr,to,tx⟩=sk at *
 have hne:(kd != kd)=false:=by simp
 have hbN:b≠w.heap.size:=by omega
 have hgN:g≠w.heap.size:=by omega
 have hbg:b≠g:=Ne.symm hgb
 clear h hk ht hl hn hF hT hG1 hG2
 go_enter Tryz.func52,Tryz.ntmps52
 go_wp2_with (
   go_at_call 74;refine (HEK.out _ (bel1 w _)).mono ?_;rintro e w2 ⟨rfl,hb2⟩
   have hB2:Below w.heap.size w w2:=(bel1 w _).trans (hb2.mono (by simp))
   have hO:=(Own.fresh w 54 #[.int .i64 kd,.bool false,.int .i64 fr,.int .i64 to,.string ⟨tx.toArray⟩]).stay hb2 (by simp)
   have n0:=hO.at 0
   have n1:=hO.at 1
   simp at n0 n1
   have HO:=hid hO
   have HB:=hid hB2
   have h2:=HM.out w2 hB2
   have c2:=(StP.cells h2.stk).2.2.1
   have f2:=StP.free h2.stk 2
   clear hO hB2 hb2 h2)
 go_quiet (fail)
 have d2:(w2.drewN nq).cell? ⟨b,2,none⟩=some (.int .i64 kd):=c2
 have g2:(w2.drewN nq).frozen? ⟨b,2,none⟩=false:=f2
 have HB3:=hid (bel_drew HB.out nq)
 have HO3:=hid (show Own (w2.drewN nq) w.heap.size 54 _ from HO.out)
 clear c2 f2 n0 n1 HB HO
 generalize w2.drewN nq=w3 at *
 have HN3:=hid (HM.out w3 HB3.out)
 go_wp2_with (
   go_at_call 75;refine (HN.out _ (StP.cells (HN3.out.in 0).stk).2.1).mono ?_;rintro e w' ⟨rfl,rfl⟩
   have HN4:=hid (HN3.out.in 0)
   have HT4:=hid ((Touch.of_new (F:=F) HB3.out).setCell (p:=⟨b,2,none⟩) (.inl hFb.1) (.int .i64 0))
   have HO4:=hid (HO3.out.past (p:=⟨b,2,none⟩) (Ne.symm hbN) (.int .i64 0))
   clear d2 g2 HN3 HO3 HB3
   generalize w3.setCell ⟨b,2,none⟩ (.int .i64 0)=w4 at *)
 have HP:=hid (top_lv (HN4.out.drewN 1) HKK.out h5k)
 have HO5:=hid (show Own w4.drew w.heap.size 54 _ from HO4.out)
 have n4:=HO5.out.at 4
 simp at n4
 go_region_with (
   go_at_call 76;refine HP.out.mono ?_;rintro e w' ⟨rfl,q,rfl⟩
   have HN5:=hid ((HN4.out.drewN 1).drewN q)
   have HT5:=hid ((HT4.out.drewN 1).drewN q)
   have n5:((w4.drewN 1).drewN q).cell? ⟨w.heap.size,4,none⟩=some (.string ⟨tx.toArray⟩):=n4
   generalize (w4.drewN 1).drewN q=w5 at *
   obtain ⟨g2,c2,e2,_,_,_,_,_,_,k2,k9⟩:=HN5.out.last HKK.out HX.out
   injection e2 with e2 _ ec
   injection e2 with e2
   injection e2 with e2 _ _
   subst e2 ec
   have k8:=k9 (k*3+2)
   have c1:=(StP.cells HN5.out.stk).2.1
   have f1:=StP.free HN5.out.stk 1
   clear k9)
 all_goals
   go_wp2
   go_ret2
   have H6:=HN5.out.nameput HX.out tx
   rw[HS.out] at H6
   exact ⟨rfl,(HT5.out.setCell (p:=⟨g,k*3+2,none⟩) (.inl hFg) (.string ⟨tx.toArray⟩)).setCell (p:=⟨b,1,none⟩) (.inl hFb.1) (.int .i64 5),⟨_,G,H6.may 5,fun j hj=>.inl (HG1.out j hj),fun j hj=>.inl (HG2.out j hj)⟩⟩
end
end
section
open Go.RowKit
theorem take_end (b:Nat) (wi kd fr to:Int) (bg:Bool) (tx:ByteArray) (w:World) (c2:w.cell? ⟨b,2,none⟩=some (.int .i64 wi)) (h0:(wi != 0)=true) (hb:b<w.heap.size) (Q:Value→Int→World→Prop)
   (HS:Calls Tryz.prog 52 #[.pointer (some ⟨b,0,none⟩),.agg #[.int .i64 kd,.bool bg,.int .i64 fr,.int .i64 to,.string tx]] (w.alloc (.cells #[.int .i64 kd,.bool bg,.int .i64 fr,.int .i64 to,.string tx] 54)) fun e w' => ∃ v k,e=.returned (.tuple #[v,.int .i64 k])∧Q v k w') :
   Calls Tryz.prog 31 #[.pointer (some ⟨b,0,none⟩),.agg #[.int .i64 kd,.bool bg,.int .i64 fr,.int .i64 to,.string tx]] w fun e w' => ∃ v k,e=.returned (.tuple #[v,.int .i64 k])∧Q v k w':=by
 have KS:=hid HS
 have hbN:b≠w.heap.size:=by omega
 clear HS
 go_enter Tryz.func31,Tryz.ntmps31
 go_wp2_with (go_at_call 52;refine KS.out.mono ?_;rintro e w' ⟨v,k,rfl,hq⟩;have HQ:=hid hq;clear hq)
 go_ret2
 exact ⟨_,_,rfl,HQ.out⟩
theorem take_begin (b:Nat) (wi kd fr to:Int) (bg:Bool) (tx:ByteArray) (w:World) (c2:w.cell? ⟨b,2,none⟩=some (.int .i64 wi)) (h0:(wi != 0)=false) (h1:bg=true) (hb:b<w.heap.size) (Q:Value→Int→World→Prop)
   (HS:Calls Tryz.prog 53 #[.pointer (some ⟨b,0,none⟩),.agg #[.int .i64 kd,.bool bg,.int .i64 fr,.int .i64 to,.string tx]] (w.alloc (.cells #[.int .i64 kd,.bool bg,.int .i64 fr,.int .i64 to,.string tx] 54)) fun e w' => ∃ v k,e=.returned (.tuple #[v,.int .i64 k])∧Q v k w') :
   Calls Tryz.prog 31 #[.pointer (some ⟨b,0,none⟩),.agg #[.int .i64 kd,.bool bg,.int .i64 fr,.int .i64 to,.string tx]] w fun e w' => ∃ v k,e=.returned (.tuple #[v,.int .i64 k])∧Q v k w':=by
 subst h1
 have KS:=hid HS
 have hbN:b≠w.heap.size:=by omega
 clear HS
 go_enter Tryz.func31,Tryz.ntmps31
 go_wp2_with (go_at_call 53;refine KS.out.mono ?_;rintro e w' ⟨v,k,rfl,hq⟩;have HQ:=hid hq;clear hq)
 go_ret2
 exact ⟨_,_,rfl,HQ.out⟩
theorem take_open2 (b:Nat) (wi kd fr to:Int) (bg:Bool) (tx:ByteArray) (w:World) (c2:w.cell? ⟨b,2,none⟩=some (.int .i64 wi)) (h0:(wi != 0)=false) (h1:bg=false) (h2:(kd==2)=true) (hb:b<w.heap.size) (Q:Value→Int→World→Prop)
   (HS:Calls Tryz.prog 54 #[.pointer (some ⟨b,0,none⟩),.agg #[.int .i64 kd,.bool bg,.int .i64 fr,.int .i64 to,.string tx]] (w.alloc (.cells #[.int .i64 kd,.bool bg,.int .i64 fr,.int .i64 to,.string tx] 54)) fun e w' => ∃ v k,e=.returned (.tuple #[v,.int .i64 k])∧Q v k w') :
   Calls Tryz.prog 31 #[.pointer (some ⟨b,0,none⟩),.agg #[.int .i64 kd,.bool bg,.int .i64 fr,.int .i64 to,.string tx]] w fun e w' => ∃ v k,e=.returned (.tuple #[v,.int .i64 k])∧Q v k w':=by
 subst h1
 have KS:=hid HS
 have hbN:b≠w.heap.size:=by omega
 clear HS
 go_enter Tryz.func31,Tryz.ntmps31
 go_wp2_with (go_at_call 54;refine KS.out.mono ?_;rintro e w' ⟨v,k,rfl,hq⟩;have HQ:=hid hq;clear hq)
 go_ret2
 exact ⟨_,_,rfl,HQ.out⟩
theorem take_open4 (b:Nat) (wi kd fr to:Int) (bg:Bool) (tx:ByteArray) (w:World) (c2:w.cell? ⟨b,2,none⟩=some (.int .i64 wi)) (h0:(wi != 0)=false) (h1:bg=false) (h2:(kd==2)=false) (h4:(kd==4)=true) (hb:b<w.heap.size) (Q:Value→Int→World→Prop)
   (HS:Calls Tryz.prog 54 #[.pointer (some ⟨b,0,none⟩),.agg #[.int .i64 kd,.bool bg,.int .i64 fr,.int .i64 to,.string tx]] (w.alloc (.cells #[.int .i64 kd,.bool bg,.int .i64 fr,.int .i64 to,.string tx] 54)) fun e w' => ∃ v k,e=.returned (.tuple #[v,.int .i64 k])∧Q v k w') :
   Calls Tryz.prog 31 #[.pointer (some ⟨b,0,none⟩),.agg #[.int .i64 kd,.bool bg,.int .i64 fr,.int .i64 to,.string tx]] w fun e w' => ∃ v k,e=.returned (.tuple #[v,.int .i64 k])∧Q v k w':=by
 subst h1
 have KS:=hid HS
 have hbN:b≠w.heap.size:=by omega
 clear HS
 go_enter Tryz.func31,Tryz.ntmps31
 go_wp2_with (go_at_call 54;refine KS.out.mono ?_;rintro e w' ⟨v,k,rfl,hq⟩;have HQ:=hid hq;clear hq)
 go_ret2
 exact ⟨_,_,rfl,HQ.out⟩
theorem take_close3 (b:Nat) (wi kd fr to:Int) (bg:Bool) (tx:ByteArray) (w:World) (c2:w.cell? ⟨b,2,none⟩=some (.int .i64 wi)) (h0:(wi != 0)=false) (h1:bg=false) (h2:(kd==2)=false) (h4:(kd==4)=false) (h3:(kd==3)=true) (hb:b<w.heap.size) (Q:Value→Int→World→Prop)
   (HS:Calls Tryz.prog 55 #[.pointer (some ⟨b,0,none⟩),.agg #[.int .i64 kd,.bool bg,.int .i64 fr,.int .i64 to,.string tx]] (w.alloc (.cells #[.int .i64 kd,.bool bg,.int .i64 fr,.int .i64 to,.string tx] 54)) fun e w' => ∃ v k,e=.returned (.tuple #[v,.int .i64 k])∧Q v k w') :
   Calls Tryz.prog 31 #[.pointer (some ⟨b,0,none⟩),.agg #[.int .i64 kd,.bool bg,.int .i64 fr,.int .i64 to,.string tx]] w fun e w' => ∃ v k,e=.returned (.tuple #[v,.int .i64 k])∧Q v k w':=by
 subst h1
 have KS:=hid HS
 have hbN:b≠w.heap.size:=by omega
 clear HS
 go_enter Tryz.func31,Tryz.ntmps31
 go_wp2_with (go_at_call 55;refine KS.out.mono ?_;rintro e w' ⟨v,k,rfl,hq⟩;have HQ:=hid hq;clear hq)
 go_ret2
 exact ⟨_,_,rfl,HQ.out⟩
theorem take_close5 (b:Nat) (wi kd fr to:Int) (bg:Bool) (tx:ByteArray) (w:World) (c2:w.cell? ⟨b,2,none⟩=some (.int .i64 wi)) (h0:(wi != 0)=false) (h1:bg=false) (h2:(kd==2)=false) (h4:(kd==4)=false) (h3:(kd==3)=false) (h5:(kd==5)=true) (hb:b<w.heap.size) (Q:Value→Int→World→Prop)
   (HS:Calls Tryz.prog 55 #[.pointer (some ⟨b,0,none⟩),.agg #[.int .i64 kd,.bool bg,.int .i64 fr,.int .i64 to,.string tx]] (w.alloc (.cells #[.int .i64 kd,.bool bg,.int .i64 fr,.int .i64 to,.string tx] 54)) fun e w' => ∃ v k,e=.returned (.tuple #[v,.int .i64 k])∧Q v k w') :
   Calls Tryz.prog 31 #[.pointer (some ⟨b,0,none⟩),.agg #[.int .i64 kd,.bool bg,.int .i64 fr,.int .i64 to,.string tx]] w fun e w' => ∃ v k,e=.returned (.tuple #[v,.int .i64 k])∧Q v k w':=by
 subst h1
 have KS:=hid HS
 have hbN:b≠w.heap.size:=by omega
 clear HS
 go_enter Tryz.func31,Tryz.ntmps31
 go_wp2_with (go_at_call 55;refine KS.out.mono ?_;rintro e w' ⟨v,k,rfl,hq⟩;have HQ:=hid hq;clear hq)
 go_ret2
 exact ⟨_,_,rfl,HQ.out⟩
theorem take_comma (b:Nat) (wi kd fr to:Int) (bg:Bool) (tx:ByteArray) (w:World) (c2:w.cell? ⟨b,2,none⟩=some (.int .i64 wi)) (h0:(wi != 0)=false) (h1:bg=false) (h2:(kd==2)=false) (h4:(kd==4)=false) (h3:(kd==3)=false) (h5:(kd==5)=false) (h6:(kd==6)=true) (hb:b<w.heap.size) (Q:Value→Int→World→Prop)
   (HS:Calls Tryz.prog 56 #[.pointer (some ⟨b,0,none⟩)] (w.alloc (.cells #[.int .i64 kd,.bool bg,.int .i64 fr,.int .i64 to,.string tx] 54)) fun e w' => ∃ v k,e=.returned (.tuple #[v,.int .i64 k])∧Q v k w') :
   Calls Tryz.prog 31 #[.pointer (some ⟨b,0,none⟩),.agg #[.int .i64 kd,.bool bg,.int .i64 fr,.int .i64 to,.string tx]] w fun e w' => ∃ v k,e=.returned (.tuple #[v,.int .i64 k])∧Q v k w':=by
 subst h1
 have KS:=hid HS
 have hbN:b≠w.heap.size:=by omega
 clear HS
 go_enter Tryz.func31,Tryz.ntmps31
 go_wp2_with (go_at_call 56;refine KS.out.mono ?_;rintro e w' ⟨v,k,rfl,hq⟩;have HQ:=hid hq;clear hq)
 go_ret2
 exact ⟨_,_,rfl,HQ.out⟩
theorem take_colon (b:Nat) (wi kd fr to:Int) (bg:Bool) (tx:ByteArray) (w:World) (c2:w.cell? ⟨b,2,none⟩=some (.int .i64 wi)) (h0:(wi != 0)=false) (h1:bg=false) (h2:(kd==2)=false) (h4:(kd==4)=false) (h3:(kd==3)=false) (h5:(kd==5)=false) (h6:(kd==6)=false) (h7:(kd==7)=true) (hb:b<w.heap.size) (Q:Value→Int→World→Prop)
   (HS:Calls Tryz.prog 57 #[.pointer (some ⟨b,0,none⟩)] (w.alloc (.cells #[.int .i64 kd,.bool bg,.int .i64 fr,.int .i64 to,.string tx] 54)) fun e w' => ∃ v k,e=.returned (.tuple #[v,.int .i64 k])∧Q v k w') :
   Calls Tryz.prog 31 #[.pointer (some ⟨b,0,none⟩),.agg #[.int .i64 kd,.bool bg,.int .i64 fr,.int .i64 to,.string tx]] w fun e w' => ∃ v k,e=.returned (.tuple #[v,.int .i64 k])∧Q v k w':=by
 subst h1
 have KS:=hid HS
 have hbN:b≠w.heap.size:=by omega
 clear HS
 go_enter Tryz.func31,Tryz.ntmps31
 go_wp2_with (go_at_call 57;refine KS.out.mono ?_;rintro e w' ⟨v,k,rfl,hq⟩;have HQ:=hid hq;clear hq)
 go_ret2
 exact ⟨_,_,rfl,HQ.out⟩
end
section
open Go.RowKit
section
variable {w w':World} {b:Nat} {F G:Nat→Prop} {m y wi:Int} {l:List Bool} {lv:List Lvl} {v:Value}
theorem Take_over (h:NR w b F m 8 wi l lv) (kd fr to:Int) (bg:Bool) (tx:ByteArray) :
   Calls Tryz.prog 17 #[.pointer (some ⟨b,0,none⟩),.agg #[.int .i64 kd,.bool bg,.int .i64 fr,.int .i64 to,.string tx]] w fun e w'=>e=.returned (.tuple #[.slice none 0 0,.int .i64 14])∧Below w.heap.size w w':=by
 have c1:=h.c1
 have hb:=h.has.2
 have hbN:b≠w.heap.size:=by omega
 clear h
 go_enter Tryz.func17,Tryz.ntmps17
 go_wp2
 go_ret2
 exact ⟨rfl,bel1 w _⟩
theorem Take_ok (h:NR w b F m y wi l lv) (hy:(y==8)=false) (kd fr to:Int) (bg:Bool) (tx:ByteArray) (Q:Value→World→Prop)
   (HS:Calls Tryz.prog 31 #[.pointer (some ⟨b,0,none⟩),.agg #[.int .i64 kd,.bool bg,.int .i64 fr,.int .i64 to,.string tx]] (w.alloc (.cells #[.int .i64 kd,.bool bg,.int .i64 fr,.int .i64 to,.string tx] 54)) fun e w' => ∃ v,e=.returned (.tuple #[v,.int .i64 0])∧Q v w') :
   Calls Tryz.prog 17 #[.pointer (some ⟨b,0,none⟩),.agg #[.int .i64 kd,.bool bg,.int .i64 fr,.int .i64 to,.string tx]] w fun e w' => ∃ v,e=.returned (.tuple #[v,.int .i64 0])∧Q v w':=by
 have c1:=h.c1
 have hb:=h.has.2
 have hbN:b≠w.heap.size:=by omega
 have KS:=hid HS
 clear h HS
 go_enter Tryz.func17,Tryz.ntmps17
 go_wp2_with (go_at_call 31;refine KS.out.mono ?_;rintro e w' ⟨v,rfl,hq⟩;have HQ:=hid hq;clear hq)
 go_ret2
 exact ⟨_,rfl,HQ.out⟩
theorem StP.six {x0 x1 x2 x5:Value} (h:KB.StP ⟨x0,x1,x2,x5⟩ w b G l):∃ v,w.cell? ⟨b,0,none⟩=some x0∧w.cell? ⟨b,1,none⟩=some x1∧w.cell? ⟨b,2,none⟩=some x2∧w.cell? ⟨b,3,none⟩=some v∧w.cell? ⟨b,4,none⟩=some (.int .i64 l.length)∧w.cell? ⟨b,5,none⟩=some x5∧(∃ A n c,v=.slice A n c) ∧
   ∀ y0 y1 y2 y5:Value,KB.StP ⟨y0,y1,y2,y5⟩ ((((((w.setCell ⟨b,0,none⟩ y0).setCell ⟨b,1,none⟩ y1).setCell ⟨b,2,none⟩ y2).setCell ⟨b,3,none⟩ v).setCell ⟨b,4,none⟩ (.int .i64 l.length)).setCell ⟨b,5,none⟩ y5) b G l:=by
 obtain ⟨ws,v,h⟩:=h
 have h0:=h.own.at 0
 have h1:=h.own.at 1
 have h2:=h.own.at 2
 have h3:=h.own.at 3
 have h4:=h.own.at 4
 have h5:=h.own.at 5
 simp at h0 h1 h2 h3 h4 h5
 refine ⟨v,h0,h1,h2,h3,h4,h5,KB.row_slice h.row,fun y0 y1 y2 y5 => ?_⟩
 refine ⟨ws,v,⟨?_,?_,h.foot,h.apart,h.many,h.bit,h.small⟩⟩
 ·have:=(((((h.own.put 0 y0).put 1 y1).put 2 y2).put 3 v).put 4 (.int .i64 l.length)).put 5 y5
  simpa using this
 ·have ht:Touch (fun j=>j=b) w ((((((w.setCell ⟨b,0,none⟩ y0).setCell ⟨b,1,none⟩ y1).setCell ⟨b,2,none⟩ y2).setCell ⟨b,3,none⟩ v).setCell ⟨b,4,none⟩ (.int .i64 l.length)).setCell ⟨b,5,none⟩ y5) :=
    (((((((Touch.refl (fun j=>j=b) w).setCell (p:=⟨b,0,none⟩) (.inl rfl) _).setCell (p:=⟨b,1,none⟩) (.inl rfl) _).setCell (p:=⟨b,2,none⟩) (.inl rfl) _).setCell (p:=⟨b,3,none⟩) (.inl rfl) _).setCell (p:=⟨b,4,none⟩) (.inl rfl) _).setCell (p:=⟨b,5,none⟩) (.inl rfl) _)
  exact h.row.keep ht (fun g hg e=>(h.blocks hg).2.1 e)
theorem Take_bad (h:NR w b F m y wi l lv) (hy:(y==8)=false) (kd fr to:Int) (bg:Bool) (tx:ByteArray) (r:Int) (hr:(r != 0)=true)
   (HS:Calls Tryz.prog 31 #[.pointer (some ⟨b,0,none⟩),.agg #[.int .i64 kd,.bool bg,.int .i64 fr,.int .i64 to,.string tx]] (w.alloc (.cells #[.int .i64 kd,.bool bg,.int .i64 fr,.int .i64 to,.string tx] 54)) fun e w'=>e=.returned (.tuple #[.slice none 0 0,.int .i64 r])∧Below w.heap.size w w') :
   Calls Tryz.prog 17 #[.pointer (some ⟨b,0,none⟩),.agg #[.int .i64 kd,.bool bg,.int .i64 fr,.int .i64 to,.string tx]] w fun e w'=>e=.returned (.tuple #[.slice none 0 0,.int .i64 r])∧Touch F w w'∧NR w' b F 0 8 0 l []:=by
 have c1:=h.c1
 have hb:=h.has
 have hbN:b≠w.heap.size:=by omega
 have KS:=hid HS
 have HM:=hid (fun w' (hb:Below w.heap.size w w')=>h.below hb)
 clear h HS
 go_enter Tryz.func17,Tryz.ntmps17
 go_wp2_with (
   go_at_call 31;refine KS.out.mono ?_;rintro e w1 ⟨rfl,hb1⟩
   have HB:=hid hb1
   obtain ⟨v,G,h,hG1,hG2⟩:=HM.out w1 hb1
   have HG1:=hid hG1
   obtain ⟨vs,k0,k1,k2,k3,k4,k5,⟨A,n,c,rfl⟩,hput⟩:=StP.six h.stk
   have f0:=StP.free h.stk 0
   have f1:=StP.free h.stk 1
   have f2:=StP.free h.stk 2
   have f3:=StP.free h.stk 3
   have f4:=StP.free h.stk 4
   have f5:=StP.free h.stk 5
   have HP:=hid hput
   clear hput hb1 h hG1 hG2)
 go_ret2
 have hT1:Touch F w w1:=Touch.of_new HB.out
 exact ⟨rfl,(((((hT1.setCell (p:=⟨b,0,none⟩) (.inl hb.1) _).setCell (p:=⟨b,1,none⟩) (.inl hb.1) _).setCell (p:=⟨b,2,none⟩) (.inl hb.1) _).setCell (p:=⟨b,3,none⟩) (.inl hb.1) _).setCell (p:=⟨b,4,none⟩) (.inl hb.1) _).setCell (p:=⟨b,5,none⟩) (.inl hb.1) _,
   ⟨.slice none 0 0,G,⟨HP.out _ _ _ _,GRow.nil _ _,fun g hg=>by cases hg⟩,HG1.out,fun g hg=>by cases hg⟩⟩
theorem New_nest (d:Int) (w:World) (h1 : -1000000≤d) (h2:d≤1000000) :
   Calls Tryz.prog 15 #[.int .i64 d] w fun e w' => ∃ b,e=.returned (.pointer (some ⟨b,0,none⟩))∧NR w' b (fun j=>w.heap.size≤j) (max d 1) 0 0 [] []∧Below w.heap.size w w':=by
 obtain ⟨m1,hm1,hm2⟩:∃ m1:Int,max d 1=m1∧m1=if d<1 then 1 else d:=⟨_,rfl,by split<;>omega⟩
 rw[hm1]
 have HM:=hid hm2
 clear hm1 hm2
 by_cases hd:d<1
 all_goals
   have hm:=HM.out
   first
     | rw[if_pos hd] at hm
     | rw[if_neg hd] at hm
   subst hm
   clear HM
   go_enter Tryz.func15,Tryz.ntmps15
   go_wp2
   go_ret
   first
     | exact ⟨_,rfl,⟨.slice none 0 0,fun k=>k=w.heap.size,⟨⟨[],.slice none 0 0,⟨Own.fresh w 104 #[.int .i64 1,.int .i64 0,.int .i64 0,.slice none 0 0,.int .i64 0,.slice none 0 0],GRow.nil _ _,fun k=>⟨fun h=>.inl h,fun h=>h.elim id (fun h=>by cases h)⟩,(fun h=>by cases h),rfl,(fun i hi=>by simp at hi),(fun x hx=>by cases hx)⟩⟩,GRow.nil _ _,fun g hg=>by cases hg⟩,(fun k hk=>by rw[hk];exact Nat.le_refl _),fun g hg=>by cases hg⟩,bel1 w _⟩
     | exact ⟨_,rfl,⟨.slice none 0 0,fun k=>k=w.heap.size,⟨⟨[],.slice none 0 0,⟨Own.fresh w 104 #[.int .i64 _,.int .i64 0,.int .i64 0,.slice none 0 0,.int .i64 0,.slice none 0 0],GRow.nil _ _,fun k=>⟨fun h=>.inl h,fun h=>h.elim id (fun h=>by cases h)⟩,(fun h=>by cases h),rfl,(fun i hi=>by simp at hi),(fun x hx=>by cases hx)⟩⟩,GRow.nil _ _,fun g hg=>by cases hg⟩,(fun k hk=>by rw[hk];exact Nat.le_refl _),fun g hg=>by cases hg⟩,bel1 w _⟩
end
end
section
open Go.RowKit
def codeM (m:May) (none:Bool):Int:=match m with
 | .value=>if none then 0 else 1
 | .item=>2
 | .name=>3
 | .member=>4
 | .colon=>5
 | .next=>6
 | .nothing=>7
 | .broken=>8
def May.named:May→Bool
 | .value=>true
 | .colon=>true
 | _=>false
def LvR:Bool→List Opn→List Lvl→Prop
 | _,[],[]=>True
 | nm,o :: r,x :: s=>(x.fr=o.fr∧x.many=o.many∧(nm=true→o.obj=true→x.name=o.name))∧o.step=stepO r∧LvR true r s
 | _,_,_=>False
def May.isBroken:May→Bool
 | .broken=>true
 | _=>false
def Shp (m:May) (op:List Opn):Prop:=match m with
 | .item=>isArr op=true
 | .member=>isObj op=true
 | .name=>isObj op=true
 | .colon=>isObj op=true
 | .next=>op≠[]
 | .nothing=>op=[]
 | _=>True
theorem LvR.len:∀ {nm:Bool} {op:List Opn} {lo:List Lvl},LvR nm op lo→op.length=lo.length
 | _,[],[],_=>rfl
 | _,o :: r,x :: s,h=>by simp[h.2.2.len]
 | _,[],_ :: _,h=>h.elim
 | _,_ :: _,[],h=>h.elim
theorem LvR.step {nm:Bool} {op:List Opn} {lo:List Lvl} (h:LvR nm op lo) (hn:nm=true∨isObj op=false):stR (op.map Opn.obj) lo=stepO op:=by
 cases op with
 | nil=>cases lo with
   | nil=>rfl
   | cons x s=>exact h.elim
 | cons o r => cases lo with
   | nil=>exact h.elim
   | cons x s =>
     obtain ⟨⟨h1,h2,h3⟩,_⟩:=h
     show (if o.obj then (⟨true,x.name,0⟩:Stp) else ⟨false,[],x.many⟩)=if o.obj then ⟨true,o.name,0⟩ else ⟨false,[],o.many⟩
     cases ho:o.obj
     ·simp[h2]
     ·have : nm=true:=by
        rcases hn with h|h
        ·exact h
        ·have:o.obj=false:=h
         rw[ho] at this;cases this
      rw[h3 this ho]
      rfl
theorem LvR.ended {nm:Bool} {op:List Opn} {lo:List Lvl} (h:LvR nm op lo):LvR false (moreO op) (endL lo):=by
 cases op with
 | nil=>cases lo with
   | nil=>trivial
   | cons x s=>exact h.elim
 | cons o r=>cases lo with
   | nil=>exact h.elim
   | cons x s=>exact ⟨⟨h.1.1,by show x.many+1=o.many+1;rw[h.1.2.1],fun h=>by cases h⟩,h.2.1,h.2.2⟩
theorem LvR.many {k:Nat}:∀ {nm:Bool} {op:List Opn} {lo:List Lvl},LvR nm op lo→(∀ o∈op,o.many≤k) → ∀ x∈lo,x.many≤k
 | _,[],[],_,_,x,hx=>by cases hx
 | _,o :: r,y :: s,h,hm,x,hx=>by
   rcases List.mem_cons.1 hx with rfl|hx
   ·rw[h.1.2.1];exact hm o (by simp)
   ·exact h.2.2.many (fun q hq=>hm q (by simp[hq])) x hx
 | _,[],_ :: _,h,_,_,_=>h.elim
 | _,_ :: _,[],h,_,_,_=>h.elim
theorem map_more (op:List Opn):(moreO op).map Opn.obj=op.map Opn.obj:=by cases op<;>rfl
theorem map_name (s:List UInt8)(op:List Opn):(nameO s op).map Opn.obj=op.map Opn.obj:=by cases op<;>rfl
def NOk (w:World) (b:Nat) (F:Nat→Prop) (n:Nst):Prop :=
 ∃ lo,LvR n.may.named n.op lo∧Shp n.may n.op∧NR w b F n.most (codeM n.may n.op.isEmpty) n.begun (n.op.map Opn.obj).reverse lo.reverse
def NIs (w:World) (b:Nat) (F:Nat→Prop) (n:Nst):Prop :=
 (n.may.isBroken=true∧NR w b F 0 8 0 (n.op.map Opn.obj).reverse [])∨(n.may.isBroken=false∧NOk w b F n)
def TkP (w:World) (b:Nat) (F:Nat→Prop) (r:Nst×List Evt×Int) (v:Value) (k:Int) (w':World):Prop :=
 k=r.2.2∧((r.2.2=0∧GRow evK w' w.heap.size v r.2.1∧Touch F w w'∧NOk w' b (fun j=>F j∨w.heap.size≤j) r.1)∨(r.2.2≠0∧r.2.1=[]∧v=.slice none 0 0∧Below w.heap.size w w'))
section
variable {w w' w1:World} {b:Nat} {F:Nat→Prop} {n:Nst} {t:Tok} {y:Int} {l:List Bool} {lv:List Lvl}
theorem TkP.bad {k:Int}(hk:k≠0){n':Nst}(hb:Below w.heap.size w w'):TkP w b F (n',[],k) (.slice none 0 0) k w':=⟨rfl,.inr ⟨hk,rfl,rfl,hb⟩⟩
theorem TkP.box {r:Nst×List Evt×Int} {v:Value} {k:Int} {o:Obj} (h:TkP (w.alloc o) b F r v k w'):TkP w b F r v k w':=by
 have hz:(w.alloc o).heap.size=w.heap.size+1:=by simp
 obtain ⟨h1,h|h⟩:=h
 ·obtain ⟨h2,h3,h4,lo,h5,h6,h7⟩:=h
  refine ⟨h1,.inl ⟨h2,h3.mono (by omega),(Touch.of_new (F:=F) (bel1 w o)).trans h4 (fun _ _ h=>h),lo,h5,h6,h7.mono (fun k _ hk => ?_)⟩⟩
  rcases hk with hk|hk
  ·exact .inl hk
  ·exact .inr (by omega)
 ·obtain ⟨h2,h3,h4,h5⟩:=h
  exact ⟨h1,.inr ⟨h2,h3,h4,(bel1 w o).trans (h5.mono (by omega))⟩⟩
end
end
section
open Go.RowKit
def May.ends:May→Bool
 | .item=>true
 | .member=>true
 | .next=>true
 | _=>false
theorem code_val (m:May)(z:Bool):(codeM m z==0||codeM m z==1||codeM m z==2)=m.val:=by cases m<;>cases z<;>rfl
theorem code_nam (m:May)(z:Bool):(codeM m z==3||codeM m z==4)=m.nam:=by cases m<;>cases z<;>rfl
theorem code_end (m:May)(z:Bool):(codeM m z==2||codeM m z==4||codeM m z==6)=m.ends:=by cases m<;>cases z<;>rfl
theorem code_not (m:May)(z:Bool):(codeM m z==7)=m.isNothing:=by cases m<;>cases z<;>rfl
theorem code_six (m:May)(z:Bool):codeM m z=6↔m=.next:=by cases m<;>cases z<;>simp[codeM]
theorem code_five (m:May)(z:Bool):codeM m z=5↔m=.colon:=by cases m<;>cases z<;>simp[codeM]
theorem code_eight (m:May)(z:Bool)(h:m.isBroken=false):(codeM m z==8)=false:=by cases m<;>cases z<;>first|rfl|cases h
section
variable (n:Nst) (t:Tok)
theorem tk_begin_name (h0:n.begun=0) (hb:t.begun=true) (hk:t.kind=8) (hn:n.may.nam=true):takeN n t=({ n with begun:=8,came:=true },[],0):=by
 unfold takeN
 rw[if_pos h0]
 obtain ⟨most,op,may,begun,came⟩:=n
 obtain ⟨kd,bg,fr,to,tx⟩:=t
 have hb:bg=true:=hb
 have hk:kd=8:=hk
 subst hb hk
 cases may<;>first|(cases hn;done)|(unfold takeO;simp[May.nam])
theorem tk_begin_value (h0:n.begun=0) (hb:t.begun=true) (hv:n.may.val=true):takeN n t=({ n with begun:=t.kind,came:=true },[⟨1,beginK t.kind,t.fr,0,stepO n.op,[]⟩],0):=by
 unfold takeN
 rw[if_pos h0]
 obtain ⟨most,op,may,begun,came⟩:=n
 obtain ⟨kd,bg,fr,to,tx⟩:=t
 have hb:bg=true:=hb
 subst hb
 cases may<;>first|(cases hv;done)|(unfold takeO;simp[May.nam,May.val])
theorem tk_begin_no (h0:n.begun=0) (hx:n.may.isBroken=false) (hb:t.begun=true) (hn:(n.may.nam&&t.kind==8)=false) (hv:n.may.val=false):(takeN n t).2.1=[]∧(takeN n t).2.2=if n.may.isNothing then 9 else 8:=by
 unfold takeN
 rw[if_pos h0]
 obtain ⟨most,op,may,begun,came⟩:=n
 obtain ⟨kd,bg,fr,to,tx⟩:=t
 have hb:bg=true:=hb
 subst hb
 cases may<;>first|(cases hv;done)|(cases hx;done)|(unfold takeO;simp_all [May.nam,May.val,badN,May.isNothing])
theorem tk_open_no (h0:n.begun=0) (hx:n.may.isBroken=false) (hb:t.begun=false) (hk:t.kind=2∨t.kind=4) (hv:n.may.val=false):(takeN n t).2.1=[]∧(takeN n t).2.2=if n.may.isNothing then 9 else 8:=by
 unfold takeN
 rw[if_pos h0]
 obtain ⟨most,op,may,begun,came⟩:=n
 obtain ⟨kd,bg,fr,to,tx⟩:=t
 have hb:bg=false:=hb
 have hk:kd=2∨kd=4:=hk
 subst hb
 rcases hk with rfl|rfl<;>cases may<;>first|(cases hv;done)|(cases hx;done)|(cases op<;>unfold takeO<;>simp[May.val,badN,May.isNothing]<;>(repeat' split)<;>first|trivial|(split<;>simp_all)|simp_all)
theorem tk_open_deep (h0:n.begun=0) (hb:t.begun=false) (hk:t.kind=2∨t.kind=4) (hv:n.may.val=true) (hm:n.most≤n.op.length):(takeN n t).2.1=[]∧(takeN n t).2.2=12:=by
 unfold takeN
 rw[if_pos h0]
 obtain ⟨most,op,may,begun,came⟩:=n
 obtain ⟨kd,bg,fr,to,tx⟩:=t
 have hb:bg=false:=hb
 have hk:kd=2∨kd=4:=hk
 have hm:most≤op.length:=hm
 subst hb
 rcases hk with rfl|rfl<;>cases may<;>first|(cases hv;done)|(unfold takeO;simp[May.val,badN,hm])
theorem tk_open (h0:n.begun=0) (hb:t.begun=false) (hk:t.kind=2∨t.kind=4) (hv:n.may.val=true) (hm:n.op.length<n.most) :
   takeN n t=({ n with op:=⟨decide (t.kind=4),t.fr,stepO n.op,0,[]⟩ :: n.op,may:=if t.kind=4 then .member else .item,came:=true },[⟨1,t.kind/4+4,t.fr,0,stepO n.op,[]⟩],0):=by
 unfold takeN
 rw[if_pos h0]
 obtain ⟨most,op,may,begun,came⟩:=n
 obtain ⟨kd,bg,fr,to,tx⟩:=t
 have hb:bg=false:=hb
 have hk:kd=2∨kd=4:=hk
 have hm2:¬ most≤op.length:=Nat.not_le.2 hm
 subst hb
 rcases hk with rfl|rfl<;>cases may<;>first|(cases hv;done)|(unfold takeO;simp[May.val];intro h;exact absurd h hm2)
theorem tk_close_no (h0:n.begun=0) (hx:n.may.isBroken=false) (hb:t.begun=false) (hk:t.kind=3∨t.kind=5) (he:n.may.ends=false):(takeN n t).2.1=[]∧(takeN n t).2.2=if n.may.isNothing then 9 else 8:=by
 unfold takeN
 rw[if_pos h0]
 obtain ⟨most,op,may,begun,came⟩:=n
 obtain ⟨kd,bg,fr,to,tx⟩:=t
 have hb:bg=false:=hb
 have hk:kd=3∨kd=5:=hk
 subst hb
 rcases hk with rfl|rfl<;>cases may<;>first|(cases he;done)|(cases hx;done)|(cases op<;>unfold takeO<;>simp[May.val,badN,May.isNothing])
theorem tk_close_else (o:Opn) (r:List Opn) (h0:n.begun=0) (hb:t.begun=false) (hk:t.kind=3∨t.kind=5) (he:n.may.ends=true) (hop:n.op=o :: r) (hs:Shp n.may n.op) (ho:o.obj≠(t.kind==5)):(takeN n t).2.1=[]∧(takeN n t).2.2=8:=by
 unfold takeN
 rw[if_pos h0]
 obtain ⟨most,op,may,begun,came⟩:=n
 obtain ⟨kd,bg,fr,to,tx⟩:=t
 have hb:bg=false:=hb
 have hk:kd=3∨kd=5:=hk
 have hop:op=o :: r:=hop
 have ho:o.obj≠(kd==5):=ho
 subst hb hop
 rcases hk with rfl|rfl<;>cases may<;>first|(cases he;done)|(cases hobj:o.obj<;>rw[hobj] at ho<;>unfold takeO<;>simp_all [May.val,badN,Shp,isArr,isObj])
theorem tk_close (o:Opn) (r:List Opn) (h0:n.begun=0) (hb:t.begun=false) (hk:t.kind=3∨t.kind=5) (he:n.may.ends=true) (hop:n.op=o :: r) (hs:Shp n.may n.op) (ho:(t.kind==5)=o.obj) :
   takeN n t=({ endedN { n with op:=r } with came:=true },[⟨2,o.kd,o.fr,t.to,o.step,[]⟩],0):=by
 unfold takeN
 rw[if_pos h0]
 obtain ⟨most,op,may,begun,came⟩:=n
 obtain ⟨kd,bg,fr,to,tx⟩:=t
 have hb:bg=false:=hb
 have hk:kd=3∨kd=5:=hk
 have hop:op=o :: r:=hop
 have ho:(kd==5)=o.obj:=ho
 subst hb hop
 rcases hk with rfl|rfl<;>cases may<;>first|(cases he;done)|(cases hobj:o.obj<;>rw[hobj] at ho<;>unfold takeO<;>simp_all [May.val,Shp,isArr,isObj,endedN])
theorem tk_comma_no (h0:n.begun=0) (hx:n.may.isBroken=false) (hb:t.begun=false) (hk:t.kind=6) (he:n.may≠.next):(takeN n t).2.1=[]∧(takeN n t).2.2=if n.may.isNothing then 9 else 8:=by
 unfold takeN
 rw[if_pos h0]
 obtain ⟨most,op,may,begun,came⟩:=n
 obtain ⟨kd,bg,fr,to,tx⟩:=t
 have hb:bg=false:=hb
 have hk:kd=6:=hk
 subst hb hk
 cases may<;>first|(cases hx;done)|exact absurd rfl he|(cases op<;>unfold takeO<;>simp[May.val,badN,May.isNothing])
theorem tk_comma (o:Opn) (r:List Opn) (h0:n.begun=0) (hb:t.begun=false) (hk:t.kind=6) (he:n.may=.next) (hop:n.op=o :: r):takeN n t=({ n with may:=if o.obj then .name else .value,came:=true },[],0):=by
 unfold takeN
 rw[if_pos h0]
 obtain ⟨most,op,may,begun,came⟩:=n
 obtain ⟨kd,bg,fr,to,tx⟩:=t
 have hb:bg=false:=hb
 have hk:kd=6:=hk
 have he:may=.next:=he
 have hop:op=o :: r:=hop
 subst hb hk he hop
 have:(6:Int)≠if o.obj=true then 5 else 3:=by split<;>decide
 unfold takeO
 simp[May.val,this]
theorem tk_colon_no (h0:n.begun=0) (hx:n.may.isBroken=false) (hb:t.begun=false) (hk:t.kind=7) (he:n.may≠.colon):(takeN n t).2.1=[]∧(takeN n t).2.2=if n.may.isNothing then 9 else 8:=by
 unfold takeN
 rw[if_pos h0]
 obtain ⟨most,op,may,begun,came⟩:=n
 obtain ⟨kd,bg,fr,to,tx⟩:=t
 have hb:bg=false:=hb
 have hk:kd=7:=hk
 subst hb hk
 cases may<;>first|(cases hx;done)|exact absurd rfl he|(cases op<;>unfold takeO<;>simp[May.val,badN,May.isNothing]<;>(try (split<;>simp_all)))
theorem tk_colon (h0:n.begun=0) (hb:t.begun=false) (hk:t.kind=7) (he:n.may=.colon):takeN n t=({ n with may:=.value,came:=true },[],0):=by
 unfold takeN
 rw[if_pos h0]
 obtain ⟨most,op,may,begun,came⟩:=n
 obtain ⟨kd,bg,fr,to,tx⟩:=t
 have hb:bg=false:=hb
 have hk:kd=7:=hk
 have he:may=.colon:=he
 subst hb hk he
 unfold takeO
 simp[May.val]
end
end
section
open Go.RowKit
section
variable {w w' w1:World} {b:Nat} {F:Nat→Prop} {n:Nst} {t:Tok}
theorem tk_of_bad {k:Int} {w1:World} (h:(takeN n t).2.1=[]∧(takeN n t).2.2=k) (hk:k≠0) (hb:Below w1.heap.size w1 w'):TkP w1 b F (takeN n t) (.slice none 0 0) k w':=by
 obtain ⟨h1,h2⟩:=h
 exact ⟨h2.symm,.inr ⟨by rw[h2];exact hk,h1,rfl,hb⟩⟩
theorem nine_ne (z:Bool):(if z=true then (9:Int) else 8)≠0:=by cases z<;>decide
theorem below_self (w:World):Below w.heap.size w w:=Below.refl _ _
def Sub (f:Nat) (args:Array Value) (w1:World) (b:Nat) (F:Nat→Prop) (n:Nst) (t:Tok):Prop :=
 Calls Tryz.prog f args w1 fun e w' => ∃ v k,e=.returned (.tuple #[v,.int .i64 k])∧TkP w1 b F (takeN n t) v k w'
abbrev tokArgs (b:Nat) (t:Tok):Array Value:=#[.pointer (some ⟨b,0,none⟩),.agg (tokCells t).toArray]
theorem sub_begin (h:NOk w b F n) (hF:∀ k,F k→k<w.heap.size) (hx:n.may.isBroken=false) (h0:n.begun=0) (h5:n.op.length≤4990) (hb:t.begun=true) (hk:t.kind=8∨t.kind=9∨t.kind=10) :
   Sub 53 (tokArgs b t) w b F n t:=by
 obtain ⟨lo,hr,hs,h⟩:=h
 have hlen:=hr.len
 by_cases hn:n.may.nam=true∧t.kind=8
 ·refine (begin_name h t hn.2 (by rw[code_nam];exact hn.1)).mono ?_
  rintro e w' ⟨rfl,ha⟩
  refine ⟨_,0,rfl,?_⟩
  rw[tk_begin_name n t h0 hb hn.2 hn.1]
  exact ⟨rfl,.inl ⟨rfl,GRow.nil _ _,ha.t,lo,hr,hs,ha.st⟩⟩
 ·by_cases hv:n.may.val=true
  ·have hnm:n.may.nam=false:=by cases hm:n.may<;>rw[hm] at hv<;>first|rfl|cases hv
   refine (begin_value h hF t hk (by simp[hlen]) (by simp;omega) (by rw[code_nam];exact hnm) (by rw[code_val];exact hv)).mono ?_
   rintro e w' ⟨v,rfl,hg,ha⟩
   refine ⟨v,0,rfl,?_⟩
   rw[tk_begin_value n t h0 hb hv]
   rw [stL_rev,hr.step (by
     cases hm:n.may<;>rw[hm] at hv hs<;>first|(cases hv;done)|exact .inl rfl|skip
     right
     cases ho:n.op with
     | nil=>rfl
     | cons o r=>rw[ho] at hs;show o.obj=false;simpa [Shp,isArr] using hs)] at hg
   exact ⟨rfl,.inl ⟨rfl,hg,ha.t,lo,hr,hs,ha.st⟩⟩
  ·have hv:n.may.val=false:=by simpa using hv
   have hnk:(n.may.nam&&t.kind==8)=false:=by
     cases hm:n.may.nam
     ·rfl
     ·have:t.kind≠8:=fun e=>hn ⟨hm,e⟩
      simp[this]
   refine (beginN_no h t hk (by rw[code_nam];exact hnk) (by rw[code_val];exact hv)).mono ?_
   rintro e w' ⟨rfl,hbw⟩
   rw[code_not]
   exact ⟨_,_,rfl,tk_of_bad (tk_begin_no n t h0 hx hb hnk hv) (nine_ne _) hbw⟩
theorem sub_open (h:NOk w b F n) (hF:∀ k,F k→k<w.heap.size) (hx:n.may.isBroken=false) (h0:n.begun=0) (h5:n.op.length≤4990) (hd:n.op.length≤n.most) (hb:t.begun=false) (hk:t.kind=2∨t.kind=4) :
   Sub 54 (tokArgs b t) w b F n t:=by
 obtain ⟨lo,hr,hs,h⟩:=h
 have hlen:=hr.len
 by_cases hv:n.may.val=true
 ·by_cases hm:n.most≤n.op.length
  ·refine (open_deep h t (by rw[code_val];exact hv) (by simp;omega)).mono ?_
   rintro e w' ⟨rfl,hbw⟩
   exact ⟨_,_,rfl,tk_of_bad (tk_open_deep n t h0 hb hk hv hm) (by decide) hbw⟩
  ·refine (open_yes h hF t (t.kind==4) rfl (by rw[code_val];exact hv) (by simp;omega) (by simp[hlen]) (by simp;omega)).mono ?_
   rintro e w' ⟨v,rfl,hg,ha⟩
   refine ⟨v,0,rfl,?_⟩
   rw[tk_open n t h0 hb hk hv (by omega)]
   rw [stL_rev,hr.step (by
     cases hm:n.may<;>rw[hm] at hv hs<;>first|(cases hv;done)|exact .inl rfl|skip
     right
     cases ho:n.op with
     | nil=>rfl
     | cons o r=>rw[ho] at hs;show o.obj=false;simpa [Shp,isArr] using hs)] at hg
   have hnr:LvR true n.op lo:=by
     cases hm:n.may<;>rw[hm] at hv hs hr<;>first|(cases hv;done)|exact hr|skip
     cases ho:n.op with
     | nil=>rw[ho] at hr;cases lo with
       | nil=>trivial
       | cons x s=>exact hr.elim
     | cons o r =>
       rw[ho] at hr hs
       cases lo with
       | nil=>exact hr.elim
       | cons x s =>
         have hobj:o.obj=false:=by simpa [Shp,isArr] using hs
         exact ⟨⟨hr.1.1,hr.1.2.1,fun _ h=>by rw[hobj] at h;cases h⟩,hr.2⟩
   have ev:(⟨1,if (t.kind==4)=true then 5 else 4,t.fr,0,stepO n.op,[]⟩:Evt)=⟨1,t.kind/4+4,t.fr,0,stepO n.op,[]⟩:=by
     rcases hk with hk|hk<;>rw[hk]<;>rfl
   rw[ev] at hg
   refine ⟨rfl,.inl ⟨rfl,hg,ha.t,⟨t.fr,0,[]⟩ :: lo,?_,?_,?_⟩⟩
   ·exact ⟨⟨rfl,rfl,fun _ _=>rfl⟩,rfl,hnr⟩
   ·show Shp (if t.kind=4 then May.member else May.item) (⟨decide (t.kind=4),t.fr,stepO n.op,0,[]⟩ :: n.op)
    rcases hk with hk|hk<;>rw[hk]<;>rfl
   ·have hst:=ha.st
    have e1:codeM (if t.kind=4 then May.member else May.item) (⟨decide (t.kind=4),t.fr,stepO n.op,0,[]⟩ :: n.op).isEmpty=if (t.kind==4)=true then 4 else 2:=by
      rcases hk with hk|hk<;>rw[hk]<;>rfl
    have e2:((⟨decide (t.kind=4),t.fr,stepO n.op,0,[]⟩ :: n.op:List Opn).map Opn.obj).reverse=(n.op.map Opn.obj).reverse++[t.kind==4]:=by
      simp
      rcases hk with hk|hk<;>rw[hk]<;>rfl
    have e3:((⟨t.fr,0,[]⟩:Lvl) :: lo).reverse=lo.reverse++[⟨t.fr,0,[]⟩]:=by simp
    show NR w' b _ n.most (codeM (if t.kind=4 then May.member else May.item) (⟨decide (t.kind=4),t.fr,stepO n.op,0,[]⟩ :: n.op).isEmpty) n.begun ((⟨decide (t.kind=4),t.fr,stepO n.op,0,[]⟩ :: n.op:List Opn).map Opn.obj).reverse _
    rw[e1,e2,e3]
    exact hst
 ·have hv:n.may.val=false:=by simpa using hv
  refine (open_no h t (by rw[code_val];exact hv)).mono ?_
  rintro e w' ⟨rfl,hbw⟩
  rw[code_not]
  exact ⟨_,_,rfl,tk_of_bad (tk_open_no n t h0 hx hb hk hv) (nine_ne _) hbw⟩
theorem sub_close (h:NOk w b F n) (hF:∀ k,F k→k<w.heap.size) (hx:n.may.isBroken=false) (h0:n.begun=0) (h5:n.op.length≤4990) (hm:∀ o∈n.op,o.many≤1000000000) (hb:t.begun=false) (hk:t.kind=3∨t.kind=5) :
   Sub 55 (tokArgs b t) w b F n t:=by
 obtain ⟨lo,hr,hs,h⟩:=h
 have hlen:=hr.len
 by_cases he:n.may.ends=true
 ·obtain ⟨o,r,ho⟩:∃ o r,n.op=o :: r:=by
    cases hop:n.op with
    | nil=>rw[hop] at hs;cases hm:n.may<;>rw[hm] at hs he<;>first|(cases he;done)|(cases hs;done)|exact absurd rfl hs
    | cons o r=>exact ⟨o,r,rfl⟩
  obtain ⟨x,s,rfl⟩:∃ x s,lo=x :: s:=by
    cases lo with
    | nil=>rw[ho] at hlen;simp at hlen
    | cons x s=>exact ⟨x,s,rfl⟩
  rw[ho] at hr h hlen
  obtain ⟨⟨r1,r2,r3⟩,r4,r5⟩:=hr
  by_cases hob:(t.kind==5)=o.obj
  ·have hmany:∀ x∈s,x.many≤2000000000:=fun y hy=>Nat.le_trans (r5.many (k:=1000000000) (fun q hq=>hm q (by rw[ho];simp[hq])) y hy) (by decide)
   refine (close_yes (op:=r.map Opn.obj) (lo:=s) (o:=o.obj) (x:=x) h hF t (by simp at hlen ⊢;exact hlen) (by rw[ho] at h5;simp at h5 ⊢;omega) hmany (by rw[code_end];exact he) hob).mono ?_
   rintro e w' ⟨v,rfl,hg,ha⟩
   refine ⟨v,0,rfl,?_⟩
   rw[tk_close n t o r h0 hb hk he ho hs hob]
   rw[r5.step (.inl rfl),← r4] at hg
   have ev:(⟨2,if o.obj=true then 5 else 4,x.fr,t.to,o.step,[]⟩:Evt)=⟨2,o.kd,o.fr,t.to,o.step,[]⟩:=by rw[r1];rfl
   rw[ev] at hg
   refine ⟨rfl,.inl ⟨rfl,hg,ha.t,endL s,?_,?_,?_⟩⟩
   ·show LvR (if r.isEmpty then May.nothing else May.next).named (moreO r) (endL s)
    have:(if r.isEmpty then May.nothing else May.next).named=false:=by split<;>rfl
    rw[this]
    exact r5.ended
   ·show Shp (if r.isEmpty then May.nothing else May.next) (moreO r)
    cases r with
    | nil=>exact rfl
    | cons q r=>exact List.cons_ne_nil _ _
   ·have hst:=ha.st
    show NR w' b _ n.most (codeM (if r.isEmpty then May.nothing else May.next) (moreO r).isEmpty) n.begun ((moreO r).map Opn.obj).reverse (endL s).reverse
    have e1:codeM (if r.isEmpty then May.nothing else May.next) (moreO r).isEmpty=if (r.map Opn.obj).isEmpty then 7 else 6:=by cases r<;>rfl
    rw[e1,map_more]
    exact hst
  ·refine (close_no h t (by simp at h5 ⊢;rw[ho] at h5;simp at h5;omega) (.inr ?_)).mono ?_
   ·have e1:((o :: r).map Opn.obj).reverse.getLast?.getD false=o.obj:=by simp
    rw[e1]
    rw[bne_iff_ne]
    exact fun e=>hob e.symm
   ·rintro e w' ⟨rfl,hbw⟩
    rw[code_not]
    have hnn:n.may.isNothing=false:=by cases hm:n.may<;>rw[hm] at he<;>first|rfl|cases he
    rw[hnn]
    exact ⟨_,_,rfl,tk_of_bad (tk_close_else n t o r h0 hb hk he ho hs (fun e=>hob e.symm)) (by decide) hbw⟩
 ·have he:n.may.ends=false:=by simpa using he
  refine (close_no h t (by simp;omega) (.inl (by rw[code_end];exact he))).mono ?_
  rintro e w' ⟨rfl,hbw⟩
  rw[code_not]
  exact ⟨_,_,rfl,tk_of_bad (tk_close_no n t h0 hx hb hk he) (nine_ne _) hbw⟩
theorem sub_comma (h:NOk w b F n) (hx:n.may.isBroken=false) (h0:n.begun=0) (h5:n.op.length≤4990) (hb:t.begun=false) (hk:t.kind=6) :
   Sub 56 #[.pointer (some ⟨b,0,none⟩)] w b F n t:=by
 obtain ⟨lo,hr,hs,h⟩:=h
 have hlen:=hr.len
 by_cases he:n.may=.next
 ·obtain ⟨o,r,ho⟩:∃ o r,n.op=o :: r:=by
    cases hop:n.op with
    | nil=>rw[hop,he] at hs;exact absurd rfl hs
    | cons o r=>exact ⟨o,r,rfl⟩
  have h6:codeM n.may n.op.isEmpty=6:=by rw[he];rfl
  rw[h6] at h
  have hlast:(n.op.map Opn.obj).reverse.getLast?.getD false=o.obj:=by rw[ho];simp
  refine (comma_yes h o.obj hlast (by simp;omega)).mono ?_
  rintro e w' ⟨rfl,ha⟩
  refine ⟨_,0,rfl,?_⟩
  rw[tk_comma n t o r h0 hb hk he ho]
  refine ⟨rfl,.inl ⟨rfl,GRow.nil _ _,ha.t,lo,?_,?_,?_⟩⟩
  ·show LvR (if o.obj then May.name else May.value).named n.op lo
   rw[he] at hr
   rw[ho] at hr ⊢
   cases lo with
   | nil=>exact hr.elim
   | cons x s =>
     refine ⟨⟨hr.1.1,hr.1.2.1,fun hnm hobj => ?_⟩,hr.2⟩
     rw[hobj] at hnm
     cases hnm
  ·show Shp (if o.obj then May.name else May.value) n.op
   rw[ho]
   cases hobj:o.obj
   ·trivial
   ·exact hobj
  ·have hst:=ha.st
   show NR w' b _ n.most (codeM (if o.obj then May.name else May.value) n.op.isEmpty) n.begun (n.op.map Opn.obj).reverse lo.reverse
   have e1:codeM (if o.obj then May.name else May.value) n.op.isEmpty=if o.obj then 3 else 1:=by rw[ho];cases o.obj<;>rfl
   rw[e1]
   exact hst
 ·refine (comma_no h (fun e=>he ((code_six _ _).1 e))).mono ?_
  rintro e w' ⟨rfl,rfl⟩
  rw[code_not]
  exact ⟨_,_,rfl,tk_of_bad (tk_comma_no n t h0 hx hb hk he) (nine_ne _) (below_self _)⟩
theorem sub_colon (h:NOk w b F n) (hx:n.may.isBroken=false) (h0:n.begun=0) (hb:t.begun=false) (hk:t.kind=7) :
   Sub 57 #[.pointer (some ⟨b,0,none⟩)] w b F n t:=by
 obtain ⟨lo,hr,hs,h⟩:=h
 by_cases he:n.may=.colon
 ·have h6:codeM n.may n.op.isEmpty=5:=by rw[he];rfl
  rw[h6] at h
  refine (colon_yes h).mono ?_
  rintro e w' ⟨rfl,ha⟩
  refine ⟨_,0,rfl,?_⟩
  rw[tk_colon n t h0 hb hk he]
  have hne:n.op.isEmpty=false:=by
    rw[he] at hs
    cases hop:n.op with
    | nil=>rw[hop] at hs;cases hs
    | cons o r=>rfl
  refine ⟨rfl,.inl ⟨rfl,GRow.nil _ _,ha.t,lo,?_,trivial,?_⟩⟩
  ·rw[he] at hr;exact hr
  ·have hst:=ha.st
   show NR w' b _ n.most (codeM May.value n.op.isEmpty) n.begun (n.op.map Opn.obj).reverse lo.reverse
   rw[hne]
   exact hst
 ·refine (colon_no h (fun e=>he ((code_five _ _).1 e))).mono ?_
  rintro e w' ⟨rfl,rfl⟩
  rw[code_not]
  exact ⟨_,_,rfl,tk_of_bad (tk_colon_no n t h0 hx hb hk he) (nine_ne _) (below_self _)⟩
theorem sub_end (h : NOk w b F n) (hF : ∀ k,F k→k<w.heap.size) (hT:Tab w) (s:Nat×Option Nat) (k:Int) (f:Nat) (hi:InvN n s (some (k,f))) (hw:okW (some (k,f)) t) (h5:n.op.length≤4990) (hm:∀ o∈n.op,o.many≤1000000000) :
   Sub 52 (tokArgs b t) w b F n t:=by
 obtain ⟨lo,hr,hs,h⟩:=h
 have hlen:=hr.len
 obtain ⟨g1,g2,g3,g4,g5⟩:=hi.some k f rfl
 obtain ⟨w1,w2,w3,w4⟩:=hw
 have hb0:¬ n.begun=0:=by omega
 have hkk:t.kind=8∨t.kind=9∨t.kind=10:=by omega
 have htx:t.kind=10→t.text=lT∨t.text=lF∨t.text=lN:=fun e=>w4 (by omega)
 have hmany:∀ x∈lo,x.many≤2000000000:=fun y hy=>Nat.le_trans (hr.many (k:=1000000000) hm y hy) (by decide)
 by_cases hn:n.may.nam=true
 ·obtain ⟨o,r,ho,hobj⟩:∃ o r,n.op=o :: r∧o.obj=true:=by
    cases hop:n.op with
    | nil=>rw[hop] at hs;cases hm:n.may<;>rw[hm] at hs hn<;>first|(cases hn;done)|(cases hs;done)
    | cons o r=>rw[hop] at hs;exact ⟨o,r,rfl,by cases hm:n.may<;>rw[hm] at hs hn<;>first|(cases hn;done)|exact hs⟩
  obtain ⟨x,s',rfl⟩:∃ x s,lo=x :: s:=by
    cases lo with
    | nil=>rw[ho] at hlen;simp at hlen
    | cons x s=>exact ⟨x,s,rfl⟩
  have h':=h
  rw[ho] at h'
  have e:takeN n t=({ n with begun:=0,op:=nameO t.text n.op,may:=.colon },[],0):=by unfold takeN;rw[if_neg hb0,if_pos hn]
  refine (end_name (op:=r.map Opn.obj) (lo:=s') (o:=o.obj) (x:=x) h' hF hT t w1 (w2.trans g1.symm) hkk htx (by rw[ho] at hlen;simp at hlen ⊢;exact hlen) (by rw[ho] at h5;simp at h5 ⊢;omega) (by rw[code_nam];exact hn)).mono ?_
  rintro e' w' ⟨rfl,ha⟩
  refine ⟨_,0,rfl,?_⟩
  rw[e]
  rw[ho] at hr
  obtain ⟨⟨r1,r2,r3⟩,r4,r5⟩:=hr
  refine ⟨rfl,.inl ⟨rfl,GRow.nil _ _,ha.t,⟨x.fr,x.many,t.text⟩ :: s',?_,?_,?_⟩⟩
  ·show LvR true (nameO t.text n.op) _
   rw[ho]
   exact ⟨⟨r1,r2,fun _ _=>rfl⟩,r4,r5⟩
  ·show Shp .colon (nameO t.text n.op)
   rw[ho]
   exact hobj
  ·have hst:=ha.st
   show NR w' b _ n.most 5 0 ((nameO t.text n.op).map Opn.obj).reverse _
   rw[map_name,ho]
   exact hst
 ·have hn' : n.may.nam = false := by simpa using hn
  have hv : n.may.val = true := by rcases g5 with g|g
                                   ·exact g
                                   ·exact absurd g hn
  have e:takeN n t=({ endedN n with begun:=0 },[⟨2,scalarK t,t.fr,t.to,stepO n.op,t.text⟩],0):=by unfold takeN;rw[if_neg hb0,if_neg hn]
  refine (end_value h hF hT t w1 (w2.trans g1.symm) hkk htx (by simp[hlen]) (by simp;omega) hmany (by rw[code_nam];exact hn')).mono ?_
  rintro e' w' ⟨v,rfl,hg,ha⟩
  refine ⟨v,0,rfl,?_⟩
  rw[e]
  rw [hr.step (by
    cases hm:n.may<;>rw[hm] at hv hs<;>first|(cases hv;done)|exact .inl rfl|skip
    right
    cases ho:n.op with
    | nil=>rfl
    | cons o r=>rw[ho] at hs;show o.obj=false;simpa [Shp,isArr] using hs)] at hg
  refine ⟨rfl,.inl ⟨rfl,hg,ha.t,endL lo,?_,?_,?_⟩⟩
  ·show LvR (if n.op.isEmpty then May.nothing else May.next).named (moreO n.op) (endL lo)
   have:(if n.op.isEmpty then May.nothing else May.next).named=false:=by split<;>rfl
   rw[this]
   exact hr.ended
  ·show Shp (if n.op.isEmpty then May.nothing else May.next) (moreO n.op)
   cases hop:n.op with
   | nil=>exact rfl
   | cons q r=>exact List.cons_ne_nil _ _
  ·have hst:=ha.st
   show NR w' b _ n.most (codeM (if n.op.isEmpty then May.nothing else May.next) (moreO n.op).isEmpty) 0 ((moreO n.op).map Opn.obj).reverse (endL lo).reverse
   have e1:codeM (if n.op.isEmpty then May.nothing else May.next) (moreO n.op).isEmpty=if (n.op.map Opn.obj).isEmpty then 7 else 6:=by cases n.op<;>rfl
   rw[e1,map_more]
   exact hst
end
end
section
open Go.RowKit
theorem takeN_fault (n:Nst) (t:Tok) (hx:n.may.isBroken=false):((takeN n t).2.2≠0→(takeN n t).1.may.isBroken=true∧(takeN n t).1.op=n.op)∧((takeN n t).2.2=0→(takeN n t).1.may.isBroken=false):=by
 obtain ⟨most,op,may,begun,came⟩:=n
 have hb:∀ (x:Nst) (k:Int),x.op=op→((badN x k).1.may.isBroken=true∧(badN x k).1.op=op):=fun x k h=>⟨rfl,h⟩
 unfold takeN
 split
 ·cases may<;>first
    | (cases hx;done)
    | (cases op<;>unfold takeO<;>simp only []<;>(repeat' split)<;>first
        | exact ⟨fun _=>hb _ _ rfl,fun h=>absurd h (by simp[badN])⟩
        | exact ⟨fun h=>absurd rfl h,fun _=>rfl⟩
        | (refine ⟨fun h=>absurd rfl h,fun _ => ?_⟩;simp only [endedN];(repeat' split)<;>rfl))
 ·split
  ·exact ⟨fun h=>absurd rfl h,fun _=>rfl⟩
  ·refine ⟨fun h=>absurd rfl h,fun _ => ?_⟩
   simp only [endedN]
   split<;>rfl
section
variable {w w' w1:World} {b:Nat} {F:Nat→Prop} {n:Nst} {t:Tok} {s:Nat×Option Nat} {p:Option (Int×Nat)}
theorem NOk.below (h:NOk w b F n) (hb:Below w.heap.size w w'):NOk w' b F n:=by
 obtain ⟨lo,h1,h2,h3⟩:=h
 exact ⟨lo,h1,h2,h3.below hb⟩
theorem bne_false {a c:Int}(h:a=c):(a != c)=false:=by simp[h]
theorem takeNst_any (h:NOk w b F n) (hF:∀ k,F k→k<w.heap.size) (hx:n.may.isBroken=false) (hi:InvN n s p) (hw:okW p t) (hT:Tab w) (hm:∀ o∈n.op,o.many≤1000000000) (h5:n.op.length≤4990) :
   Calls Tryz.prog 31 (tokArgs b t) w fun e w' => ∃ v k,e=.returned (.tuple #[v,.int .i64 k])∧TkP w b F (takeN n t) v k w':=by
 have hsz:(w.alloc (.cells (tokCells t).toArray 54)).heap.size=w.heap.size+1:=by simp
 have hb1:=bel1 w (.cells (tokCells t).toArray 54)
 have h1:=h.below hb1
 have hF1:∀ k,F k→k<(w.alloc (.cells (tokCells t).toArray 54)).heap.size:=fun k hk=>by have:=hF k hk;omega
 have hT1:Tab (w.alloc (.cells (tokCells t).toArray 54)):=hT.stay hb1 (hT.elim fun _ h=>h.inside)
 obtain ⟨lo,_,_,hn⟩:=h
 have c2:=hn.c2
 have hbw:=hn.has.2
 have box:∀ {f:Nat} {args:Array Value},Sub f args (w.alloc (.cells (tokCells t).toArray 54)) b F n t→Calls Tryz.prog f args (w.alloc (.cells (tokCells t).toArray 54)) fun e w' => ∃ v k,e=.returned (.tuple #[v,.int .i64 k])∧TkP w b F (takeN n t) v k w':=fun hs=>hs.mono (by
   rintro e w' ⟨v,k,rfl,hp⟩
   exact ⟨v,k,rfl,hp.box⟩)
 cases p with
 | some kf =>
   obtain ⟨k,f⟩:=kf
   have hs:=box (sub_end h1 hF1 hT1 s k f hi hw h5 hm)
   obtain ⟨g1,g2,g3,_⟩:=hi.some k f rfl
   exact take_end b n.begun t.kind t.fr t.to t.begun ⟨t.text.toArray⟩ w c2 (bne_iff_ne.2 (by omega)) hbw _ hs
 | none =>
   have h0:=(hi.none rfl).1
   have hz:=bne_false h0
   cases hbg:t.begun with
   | true =>
     have hk:t.kind=8∨t.kind=9∨t.kind=10:=by
       unfold okW at hw
       rw[hbg] at hw
       obtain ⟨w1,w2⟩:8≤t.kind∧t.kind≤10:=hw
       omega
     exact take_begin b n.begun t.kind t.fr t.to t.begun ⟨t.text.toArray⟩ w c2 hz hbg hbw _ (box (sub_begin h1 hF1 hx h0 h5 hbg hk))
   | false =>
     have hk:t.kind=2∨t.kind=3∨t.kind=4∨t.kind=5∨t.kind=6∨t.kind=7:=by
       unfold okW at hw
       rw[hbg] at hw
       obtain ⟨w1,w2⟩:2≤t.kind∧t.kind≤7:=hw
       omega
     have ne:∀ a c:Int,a≠c→(a==c)=false:=fun a c h=>beq_eq_false_iff_ne.2 h
     rcases hk with hk|hk|hk|hk|hk|hk
     ·exact take_open2 b n.begun t.kind t.fr t.to t.begun ⟨t.text.toArray⟩ w c2 hz hbg (beq_iff_eq.2 hk) hbw _ (box (sub_open h1 hF1 hx h0 h5 hi.deep hbg (.inl hk)))
     ·exact take_close3 b n.begun t.kind t.fr t.to t.begun ⟨t.text.toArray⟩ w c2 hz hbg (ne _ _ (by omega)) (ne _ _ (by omega)) (beq_iff_eq.2 hk) hbw _ (box (sub_close h1 hF1 hx h0 h5 hm hbg (.inl hk)))
     ·exact take_open4 b n.begun t.kind t.fr t.to t.begun ⟨t.text.toArray⟩ w c2 hz hbg (ne _ _ (by omega)) (beq_iff_eq.2 hk) hbw _ (box (sub_open h1 hF1 hx h0 h5 hi.deep hbg (.inr hk)))
     ·exact take_close5 b n.begun t.kind t.fr t.to t.begun ⟨t.text.toArray⟩ w c2 hz hbg (ne _ _ (by omega)) (ne _ _ (by omega)) (ne _ _ (by omega)) (beq_iff_eq.2 hk) hbw _ (box (sub_close h1 hF1 hx h0 h5 hm hbg (.inr hk)))
     ·exact take_comma b n.begun t.kind t.fr t.to t.begun ⟨t.text.toArray⟩ w c2 hz hbg (ne _ _ (by omega)) (ne _ _ (by omega)) (ne _ _ (by omega)) (ne _ _ (by omega)) (beq_iff_eq.2 hk) hbw _ (box (sub_comma h1 hx h0 h5 hbg hk))
     ·exact take_colon b n.begun t.kind t.fr t.to t.begun ⟨t.text.toArray⟩ w c2 hz hbg (ne _ _ (by omega)) (ne _ _ (by omega)) (ne _ _ (by omega)) (ne _ _ (by omega)) (ne _ _ (by omega)) (beq_iff_eq.2 hk) hbw _ (box (sub_colon h1 hx h0 hbg hk))
theorem Take_nest (h:NIs w b F n) (hF:∀ k,F k→k<w.heap.size) (hi:InvN n s p) (hw:okW p t) (hT:Tab w) (hm:∀ o∈n.op,o.many≤1000000000) (h5:n.op.length≤4990) :
   Calls Tryz.prog 17 (tokArgs b t) w fun e w' => ∃ v,e=.returned (.tuple #[v,.int .i64 (takeN n t).2.2])∧GRow evK w' w.heap.size v (takeN n t).2.1∧Touch F w w'∧NIs w' b (fun j=>F j∨w.heap.size≤j) (takeN n t).1:=by
 rcases h with ⟨hx,h⟩|⟨hx,h⟩
 ·have hp:p=none:=by
    cases p with
    | none=>rfl
    | some kf =>
      obtain ⟨k,f⟩:=kf
      have:=(hi.some k f rfl).2.2.2.2
      cases hm:n.may<;>rw[hm] at hx this<;>first|(cases hx;done)|simp[May.val,May.nam] at this
  subst hp
  have h0:=(hi.none rfl).1
  have e:takeN n t=(n,[],14):=by
    unfold takeN takeO
    rw[if_pos h0]
    cases hm:n.may<;>rw[hm] at hx<;>first|(cases hx;done)|rfl
  rw[e]
  refine (Take_over h t.kind t.fr t.to t.begun ⟨t.text.toArray⟩).mono ?_
  rintro e' w' ⟨rfl,hb⟩
  exact ⟨_,rfl,GRow.nil _ _,Touch.of_new hb,.inl ⟨hx,(h.below hb).mono (fun k _ hk=>.inl hk)⟩⟩
 ·have hsz:(w.alloc (.cells (tokCells t).toArray 54)).heap.size=w.heap.size+1:=by simp
  have hb1:=bel1 w (.cells (tokCells t).toArray 54)
  have hs:=takeNst_any (h.below hb1) (fun k hk=>by have:=hF k hk;omega) hx hi hw (hT.stay hb1 (hT.elim fun _ h=>h.inside)) hm h5
  obtain ⟨lo,h1,h2,hn⟩:=h
  obtain ⟨hf1,hf2⟩:=takeN_fault n t hx
  by_cases hr:(takeN n t).2.2=0
  ·rw [hr]
   refine (Take_ok hn (code_eight _ _ hx) t.kind t.fr t.to t.begun ⟨t.text.toArray⟩ (fun v w'=>TkP w b F (takeN n t) v 0 w') (hs.mono ?_)).mono ?_
   ·rintro e w' ⟨v,k,rfl,hp⟩
    have hk:k=0:=hp.1.trans hr
    subst hk
    exact ⟨v,rfl,hp.box⟩
   ·rintro e w' ⟨v,rfl,_,hp|hp⟩
    ·exact ⟨v,rfl,hp.2.1,hp.2.2.1,.inr ⟨hf2 hr,hp.2.2.2⟩⟩
    ·exact absurd hr hp.1
  ·refine (Take_bad hn (code_eight _ _ hx) t.kind t.fr t.to t.begun ⟨t.text.toArray⟩ (takeN n t).2.2 (bne_iff_ne.2 hr) (hs.mono ?_)).mono ?_
   ·rintro e w' ⟨v,k,rfl,hk,hp|hp⟩
    ·exact absurd hp.1 hr
    ·obtain ⟨_,_,rfl,hb⟩:=hp
     exact ⟨by rw[hk],hb1.trans (hb.mono (by omega))⟩
   ·rintro e w' ⟨rfl,ht,hn'⟩
    have he:=(takeN_one n t).1 hr
    rw[he]
    refine ⟨_,rfl,GRow.nil _ _,ht,.inl ⟨(hf1 hr).1,?_⟩⟩
    rw[(hf1 hr).2]
    exact hn'.mono (fun k _ hk=>.inl hk)
theorem NIs.mono {G:Nat→Prop} (h:NIs w b F n) (hs:∀ j,j<w.heap.size→F j→G j):NIs w b G n:=by
 rcases h with ⟨hx,h⟩|⟨hx,lo,h1,h2,h⟩
 ·exact .inl ⟨hx,h.mono hs⟩
 ·exact .inr ⟨hx,lo,h1,h2,h.mono hs⟩
theorem NIs.move {G:Nat→Prop} (h:NIs w b F n) (ht:Touch G w w') (hd:∀ j,j<w.heap.size→F j→¬ G j):NIs w' b F n:=by
 rcases h with ⟨hx,h⟩|⟨hx,lo,h1,h2,h⟩
 ·exact .inl ⟨hx,h.move ht hd⟩
 ·exact .inr ⟨hx,lo,h1,h2,h.move ht hd⟩
theorem NIs.has (h:NIs w b F n):F b∧b<w.heap.size:=by
 rcases h with ⟨hx,h⟩|⟨hx,lo,h1,h2,h⟩
 ·exact h.has
 ·exact h.has
theorem NIs.done (h:NIs w b F n):Calls Tryz.prog 19 #[.pointer (some ⟨b,0,none⟩)] w fun e w'=>e=.returned (.bool n.may.isNothing)∧Below w.heap.size w w':=by
 rcases h with ⟨hx,h⟩|⟨hx,lo,h1,h2,h⟩
 ·refine (done_any b 8 w h.c1).mono ?_
  rintro e w' ⟨rfl,rfl⟩
  exact ⟨by cases hm:n.may<;>rw[hm] at hx<;>first|(cases hx;done)|rfl,Below.refl _ _⟩
 ·refine (done_any b _ w h.c1).mono ?_
  rintro e w' ⟨rfl,rfl⟩
  rw[code_not]
  exact ⟨rfl,Below.refl _ _⟩
theorem NIs.new (d:Int) (w:World) (h1 : -1000000≤d) (h2:d≤1000000) :
   Calls Tryz.prog 15 #[.int .i64 d] w fun e w' => ∃ b,e=.returned (.pointer (some ⟨b,0,none⟩))∧NIs w' b (fun j=>w.heap.size≤j) (newN d)∧Below w.heap.size w w':=by
 refine (New_nest d w h1 h2).mono ?_
 rintro e w' ⟨b,rfl,hn,hb⟩
 refine ⟨b,rfl,.inr ⟨rfl,[],trivial,trivial,?_⟩,hb⟩
 have e:((newN d).most:Int)=max d 1:=by
   show (((if d<1 then 1 else d.toNat:Nat)):Int)=max d 1
   split<;>omega
 rw[e]
 exact hn
end
end
end Go.Proofs.YtbpilcklglhloaaGreatDoor
