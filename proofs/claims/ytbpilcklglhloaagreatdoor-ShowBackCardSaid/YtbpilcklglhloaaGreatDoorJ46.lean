/- Lemmas. -/
import Derived.Test.YtbpilcklglhloaaGreatDoorJ45
import Derived.Test.YtbpilcklglhloaaGreatDoorJ34
import Derived.Test.YtbpilcklglhloaaGreatDoorJ43
set_option maxRecDepth 100000
set_option maxHeartbeats 8000000
set_option linter.unusedVariables false
namespace Go.Proofs.YtbpilcklglhloaaGreatDoor
open Go.Lib (hid)
section
open Go.RowKit
theorem headT_le {t:Tree} (h:OkT t):(headT t).length≤7000:=by
 obtain ⟨kd,fr,to',tx,items,names⟩:=t
 unfold OkT at h
 have h1:=h.1
 have:=strT_le tx
 unfold headT
 show (if kd=4 then [91] else if kd=5 then [123] else if kd=3 then strT tx else tx).length≤_
 (repeat' split)<;>(try simp)<;>omega
mutual
theorem txt_le (ln:Bool) (C:Nat):∀ (t:Tree) (d:Nat),OkT t→d+cntT t≤C→(txtT ln d t).length≤cntT t*(7100+4*C)
 | .mk kd fr to' tx items names,d,h,hc=>by
   have hh:=headT_le h
   by_cases hk:kd=4∨kd=5
   ·rw [txt_node ln d (.mk kd fr to' tx items names) hk]
    unfold restT closeT
    have hi:=items_le ln C items names d (decide (kd=5)) true h.parts.2.2.1 (by unfold OkT at h;exact h.2.2.2.2.2) (by have:cntT (.mk kd fr to' tx items names)=1+cntL items:=rfl;omega)
    have hn:=nlT_length ln (2*d)
    have e:cntT (.mk kd fr to' tx items names)=1+cntL items:=rfl
    rw[e] at hc ⊢
    rw[Nat.add_mul,List.length_append,List.length_append,List.length_append]
    have e2:(itemsR ln d (decide ((Tree.mk kd fr to' tx items names).kd=5)) ((Tree.mk kd fr to' tx items names).items.drop 0) ((Tree.mk kd fr to' tx items names).names.drop 0) (decide (0=0)))=itemsR ln d (decide (kd=5)) items names true:=rfl
    rw[e2]
    have e3:(if decide (0<(Tree.mk kd fr to' tx items names).items.length)=true then nlT ln (2*d) else []).length≤2*d+1:=by
      split
      ·exact hn
      ·simp
    have e4:∀ b:Bool,([if b=true then (125:UInt8) else 93]).length=1:=fun b=>rfl
    rw[e4]
    omega
   ·rw[txt_leaf ln d (.mk kd fr to' tx items names) hk (h.parts.2.1 hk)]
    have e:cntT (.mk kd fr to' tx items names)=1+cntL items:=rfl
    rw[e,Nat.add_mul]
    omega
theorem items_le (ln:Bool) (C:Nat):∀ (ts:List Tree) (names:List (List UInt8)) (d:Nat) (obj fst:Bool),(∀ s∈names,s.length≤1000)→OkL ts→d+1+cntL ts≤C→(itemsR ln d obj ts names fst).length≤cntL ts*(7100+4*C)
 | [],names,d,obj,fst,_,_,_=>by show (0:Nat)≤_;exact Nat.zero_le _
 | t :: ts,names,d,obj,fst,hn,h,hc=>by
   unfold OkL at h
   have e:cntL (t :: ts)=cntT t+1+cntL ts:=rfl
   rw[e] at hc ⊢
   have h1:=txt_le ln C t (d+1) h.1 (by omega)
   have h2:=items_le ln C ts names.tail d obj false (fun s hs=>hn s (List.mem_of_mem_tail hs)) h.2 (by omega)
   have h3:=nlT_length ln (2*(d+1))
   have h4:(nameTx ln (names.headD [])).length≤6010:=by
     have:=nameTx_length ln (names.headD [])
     have:=strT_le (names.headD [])
     have hl:(names.headD []).length≤1000:=by
       cases names with
       | nil=>exact Nat.zero_le _
       | cons s r=>exact hn s (by simp)
     omega
   show ((if fst then [] else [44])++(nlT ln (2*(d+1))++((if obj then nameTx ln (names.headD []) else [])++(txtT ln (d+1) t++itemsR ln d obj ts names.tail false)))).length≤_
   have h5:(if fst=true then ([]:List UInt8) else [44]).length≤1:=by split<;>simp
   have h6:(if obj=true then nameTx ln (names.headD []) else []).length≤6010:=by
     split
     ·exact h4
     ·simp
   simp only [List.length_append]
   rw[Nat.add_mul,Nat.add_mul]
   omega
end
theorem txt_some (ln:Bool) (d:Nat) (t:Tree) (h:OkT t) (hh:headT t≠[]):txtT ln d t≠[]:=by
 by_cases hk:t.kd=4∨t.kd=5
 ·rw[txt_node ln d t hk]
  intro e
  exact hh (List.append_eq_nil_iff.1 e).1
 ·obtain ⟨kd,fr,to',tx,items,names⟩:=t
  rw[txt_leaf ln d (.mk kd fr to' tx items names) hk (h.parts.2.1 hk)]
  exact hh
theorem txt_fits (ln:Bool) (t:Tree) (h:OkT t) (hc:cntT t≤4100):(txtT ln 0 t).length≤100000000:=by
 have:=txt_le ln 4100 t 0 h (by omega)
 have h2:cntT t*(7100+4*4100)≤4100*(7100+4*4100):=Nat.mul_le_mul_right _ hc
 omega
end
section
open Go.RowKit
theorem tree_size (l:List UInt8) (d:Int):sizeT (treeP l d)≤2*l.length+2:=by
 have h1:(parseP l d).1.length≤2*l.length+2:=goP_len l .out (newN d) 0
 have h2:=bldA_size (parseP l d).1 ⟨[],none⟩
 have h0:szB ⟨[],none⟩=0:=rfl
 unfold treeP treeE
 cases hr:(bldA ⟨[],none⟩ (parseP l d).1).root with
 | none=>show sizeT (.mk 0 0 0 [] [] [])≤_;simp[sizeT,sizeL]
 | some t =>
   have h3:szR (some t)≤szB (bldA ⟨[],none⟩ (parseP l d).1):=by unfold szB;rw[hr];omega
   have h4:szR (some t)=sizeT t:=rfl
   show sizeT t≤_
   omega
mutual
theorem cnt_size:∀ t:Tree,cntT t+1≤2*sizeT t
 | .mk kd fr to' tx items names=>by
   have:=cntL_size items
   have e:cntT (.mk kd fr to' tx items names)=1+cntL items:=rfl
   unfold sizeT
   omega
theorem cntL_size:∀ ts:List Tree,cntL ts≤2*sizeL ts
 | []=>Nat.zero_le _
 | t :: ts=>by
   have h1:=cnt_size t
   have h2:=cntL_size ts
   have e:cntL (t :: ts)=cntT t+1+cntL ts:=rfl
   unfold sizeL
   omega
end
mutual
theorem ok_of:∀ t:Tree,GoodT t→SmT 1000 t→sizeT t≤1000000→OkT t
 | .mk kd fr to' tx items names,hg,hs,hz=>by
   unfold SmT at hs
   unfold sizeT at hz
   unfold OkT
   have hi:=sizeL_len items
   unfold GoodT at hg
   rcases hg with ⟨rfl,_,hn,hg⟩|⟨rfl,_,hn,_,hg⟩|⟨rfl,rfl,hk⟩
   ·exact ⟨hs.1,(fun e=>by cases e),fun e=>absurd (.inl rfl) e,hs.2.1,by omega,okL_of items hg hs.2.2 (by omega)⟩
   ·exact ⟨hs.1,fun _=>hn,fun e=>absurd (.inr rfl) e,hs.2.1,by omega,okL_of items hg hs.2.2 (by omega)⟩
   ·exact ⟨hs.1,fun _=>rfl,fun _=>rfl,hs.2.1,Nat.zero_le _,by unfold OkL;trivial⟩
theorem okL_of:∀ ts:List Tree,GoodL ts→SmL 1000 ts→sizeL ts≤1000000→OkL ts
 | [],_,_,_=>by unfold OkL;trivial
 | t :: ts,hg,hs,hz=>by
   unfold GoodL at hg
   unfold SmL at hs
   unfold sizeL at hz
   unfold OkL
   exact ⟨ok_of t hg.1 hs.1 (by omega),okL_of ts hg.2 hs.2 (by omega)⟩
end
theorem smT_mono {L M:Nat} (h:L≤M):(∀ t:Tree,SmT L t→SmT M t) ∧ ∀ ts:List Tree,SmL L ts→SmL M ts:=by
 constructor
 ·intro t
  exact Tree.rec (motive_1:=fun t=>SmT L t→SmT M t) (motive_2:=fun ts=>SmL L ts→SmL M ts)
    (fun kd fr to' tx items names ih g=>by unfold SmT at g ⊢;exact ⟨Nat.le_trans g.1 h,fun s hs=>Nat.le_trans (g.2.1 s hs) h,ih g.2.2⟩)
    (fun _=>by unfold SmL;trivial) (fun t ts i1 i2 g=>by unfold SmL at g ⊢;exact ⟨i1 g.1,i2 g.2⟩) t
 ·intro ts
  exact Tree.rec_1 (motive_1:=fun t=>SmT L t→SmT M t) (motive_2:=fun ts=>SmL L ts→SmL M ts)
    (fun kd fr to' tx items names ih g=>by unfold SmT at g ⊢;exact ⟨Nat.le_trans g.1 h,fun s hs=>Nat.le_trans (g.2.1 s hs) h,ih g.2.2⟩)
    (fun _=>by unfold SmL;trivial) (fun t ts i1 i2 g=>by unfold SmL at g ⊢;exact ⟨i1 g.1,i2 g.2⟩) ts
theorem head_good {t:Tree} (h:GoodT t):headT t≠[]:=by
 obtain ⟨kd,fr,to',tx,items,names⟩:=t
 unfold GoodT at h
 unfold headT
 show (if kd=4 then [91] else if kd=5 then [123] else if kd=3 then strT tx else tx)≠[]
 rcases h with ⟨rfl,_⟩|⟨rfl,_⟩|⟨_,_,⟨rfl,_⟩|⟨rfl,c,r,a,rfl,_⟩|⟨rfl,h|h⟩|⟨rfl,h⟩⟩
 ·simp
 ·simp
 ·rw[if_neg (by decide),if_neg (by decide),if_pos rfl]
  unfold strT
  simp
 ·simp
 ·subst h;decide
 ·subst h;decide
 ·subst h;decide
mutual
theorem ok_same:∀ t u:Tree,sameT t u=true→OkT t→OkT u∧cntT u=cntT t
 | .mk k1 f1 o1 t1 i1 n1,.mk k2 f2 o2 t2 i2 n2,h,ho=>by
   unfold sameT at h
   simp only [Bool.and_eq_true,decide_eq_true_eq] at h
   obtain ⟨⟨⟨rfl,rfl⟩,rfl⟩,h⟩:=h
   unfold OkT at ho
   obtain ⟨a1,a2,a3,a4,a5,a6⟩:=ho
   obtain ⟨b1,b2,b3⟩:=okL_same i1 i2 h a6
   refine ⟨?_,show 1+cntL i2=1+cntL i1 by rw[b2]⟩
   unfold OkT
   refine ⟨a1,fun e=>by rw[b3];exact a2 e,fun e=>List.eq_nil_of_length_eq_zero (by rw[b3,a3 e];rfl),a4,by rw[b3];exact a5,b1⟩
theorem okL_same:∀ ts us:List Tree,sameL ts us=true→OkL ts→OkL us∧cntL us=cntL ts∧us.length=ts.length
 | [],[],_,h=>⟨h,rfl,rfl⟩
 | [],_ :: _,h,_=>by unfold sameL at h;cases h
 | _ :: _,[],h,_=>by unfold sameL at h;cases h
 | t :: ts,u :: us,h,ho=>by
   unfold sameL at h
   simp only [Bool.and_eq_true] at h
   unfold OkL at ho
   obtain ⟨a1,a2⟩:=ok_same t u h.1 ho.1
   obtain ⟨b1,b2,b3⟩:=okL_same ts us h.2 ho.2
   refine ⟨by unfold OkL;exact ⟨a1,b1⟩,?_,by simp[b3]⟩
   show cntT u+1+cntL us=cntT t+1+cntL ts
   rw[a2,b2]
end
structure WriT (t:Tree):Prop where
 ok:OkT t
 cnt:cntT t≤800000
 ne:showT t≠[]
 ne':lineT 0 t≠[]
 le:(showT t).length≤100000000
 le':(lineT 0 t).length≤100000000
theorem wri_same {t u:Tree} (h:WriT t) (hs:sameT t u=true):WriT u:=by
 obtain ⟨a,b⟩:=ok_same t u hs h.ok
 have e1:=show_same t u hs
 have e2:=line_same t u 0 hs
 exact ⟨a,by rw[b];exact h.cnt,e1▸h.ne,e2▸h.ne',e1▸h.le,e2▸h.le'⟩
theorem wri_tree (l:List UInt8) (hl:l.length≤1000) (d:Int) (h:(parseP l d).2.1=1):WriT (treeP l d)∧sizeT (treeP l d)≤3000:=by
 obtain ⟨hg,_⟩:=tree_good l d h
 have hz:=tree_size l d
 have ho:=ok_of _ hg ((smT_mono hl).1 _ (tree_sm l d)) (by omega)
 have hc:=cnt_size (treeP l d)
 have hh:=head_good hg
 exact ⟨⟨ho,by omega,txt_some false 0 _ ho hh,txt_some true 0 _ ho hh,txt_fits false _ ho (by omega),txt_fits true _ ho (by omega)⟩,by omega⟩
end
section
open Go.RowKit
structure TreeD (T:World→Prop) where
 parse:∀ (A:Option Addr) (len cap:Nat) (l:List UInt8) (d:Int) (w:World),Rd w w.heap.size A len (byteCells l)→len≤100000000→1≤d→d≤1000→T w →
   Calls Tryz.prog 5 #[.slice A len cap,.int .i64 d] w fun e w' => ∃ x:V6,e=.returned (.tuple #[.agg (v6Cells x).toArray,.agg #[.int .i64 (parseP l d).2.1,.int .i64 (parseP l d).2.2]])∧((parseP l d).2.1=1→VIs w' (treeP l d) x)∧Below w.heap.size w w'
 same:∀ (t u:Tree) (x y:V6) (w:World),VIs w t x→VIs w u y→sizeT t≤420000000→T w →
   Calls Tryz.prog 8 #[.agg (v6Cells x).toArray,.agg (v6Cells y).toArray] w fun e w'=>e=.returned (.bool (sameT t u))∧Below w.heap.size w w'
 small:∀ (l:List UInt8) (d:Int),l.length≤100000000→(parseP l d).2.1=1→sizeT (treeP l d)≤420000000
 lasts:∀ w w',T w→Below w.heap.size w w'→T w'
end
section
open Go.RowKit
def aliveTree:Tree:=.mk 4 0 15 [] [.mk 2 2 3 [49] [] [],.mk 5 5 13 [] [.mk 2 11 12 [50] [] []] [[97]]] []
theorem alive_show:showT aliveTree=[91,49,44,123,34,97,34,58,50,125,93]:=by decide +kernel
theorem alive_cnt:cntT aliveTree≤800000:=by decide +kernel
theorem alive_ok:OkT aliveTree:=by
 unfold aliveTree
 simp[OkT,OkL]
theorem aliveParse (w:World):Calls Tryz.prog 9 #[.string ⟨#[91,32,49,44,32,123,34,97,34,32,58,50,125,32,93]⟩,.int .i64 9] w fun e w' =>
   ∃ x:V6,e=.returned (.tuple #[.agg #[.int .i64 x.kd,.int .i64 x.fr,.int .i64 x.to,.string ⟨x.tx.toArray⟩,.slice x.A x.n x.c,.slice x.B x.m x.d],.agg #[.int .i64 1,.int .i64 15]])∧VIs w' aliveTree x∧Below w.heap.size w w':=by
 have h:=rParse_any ⟨#[91,32,49,44,32,123,34,97,34,32,58,50,125,32,93]⟩ 9 (by decide) (by decide) (by decide) w
 have e:ParseR (⟨#[91,32,49,44,32,123,34,97,34,32,58,50,125,32,93]⟩:ByteArray).data.toList ((9:Nat):Int)=(aliveTree,1,15):=alive_text
 rw[e] at h
 exact h
theorem aliveText (x:V6) (w:World) (h:VIs w aliveTree x):Calls Tryz.prog 6 #[.agg #[.int .i64 x.kd,.int .i64 x.fr,.int .i64 x.to,.string ⟨x.tx.toArray⟩,.slice x.A x.n x.c,.slice x.B x.m x.d]] w fun e w' =>
   e=.returned (.string ⟨#[91,49,44,123,34,97,34,58,50,125,93]⟩)∧Below w.heap.size w w':=by
 have:=text_any aliveTree x w h alive_ok alive_cnt (by rw[alive_show];decide) (by rw[alive_show];decide)
 rw[alive_show] at this
 exact this
theorem alive11_any (W:World):Calls Tryz.prog 4 #[] W fun e w'=>e=.returned (.bool true)∧Below W.heap.size W w':=by
 go_enter Tryz.func4,Tryz.ntmps4
 go_wp2_with (first
   | (go_at_call 9
      go_must (
        refine (aliveParse _).mono ?_
        rintro e w1 ⟨x,rfl,hv1,hb1⟩
        have hb2:=below2 w1 (.cells #[.int .i64 x.kd,.int .i64 x.fr,.int .i64 x.to,.string ⟨x.tx.toArray⟩,.slice x.A x.n x.c,.slice x.B x.m x.d] 27) (.cells #[.int .i64 1,.int .i64 15] 29)
        have HV:=hid (And.intro (VIs.stay hb2 _ x hv1) (hb1.trans (hb2.mono hb1.size)))
        clear hv1 hb1 hb2))
   | (go_at_call 6
      go_must (
        refine (aliveText x _ HV.out.1).mono ?_
        rintro e w2 ⟨rfl,hb⟩
        have HB:=hid (HV.out.2.trans (hb.mono HV.out.2.size))
        clear hb)))
 go_ret
 exact ⟨rfl,HB.out⟩
theorem row_len_cap {k:IntKind} {w:World} {A:Option Addr} {len cap:Nat} {zs:List Int} (h:IsRow k w A len cap zs):len≤cap∧cap≤maxLen:=by
 rcases h with ⟨_,rfl,rfl,_⟩|⟨_,_,h1,h2,_⟩
 ·exact ⟨Nat.le_refl _,by decide⟩
 ·exact ⟨h1,h2⟩
end
section
open Go.RowKit
theorem laidOut0:laidOutB Tryz.prog=true:=by kernel_rfl
theorem tab_of_laid {W:World} (h:laidMetH Tryz.prog Rows.showBackRow.laid W):Tab W :=
 laid_own laidOut0 (by kernel_rfl) h (List.mem_cons_self ..) (l:=[.string ⟨[116,114,117,101].toArray⟩,.int .i64 1,.string ⟨[102,97,108,115,101].toArray⟩,.int .i64 1,.string ⟨[110,117,108,108].toArray⟩,.int .i64 0]) rfl (by simp) (by kernel_rfl)
theorem treeD:TreeD Tab where
 parse:=fun A len cap l d w hx h2 d1 d2 hT=>parse_any A len cap l d w hx h2 d1 d2 hT
 same:=fun t u x y w hx hy hz hT=>same_any t u x y w hx hy hz
 small:=fun l d h _=>tree_small l d h
 lasts:=fun w w' hT hb=>hT.stay hb (hT.elim fun _ h=>h.inside)
def VAt (q:Nat)(x:V6)(t:Tree)(w:World):Prop:=w.cell? ⟨q,0,none⟩=some (.int .i64 x.kd)∧w.cell? ⟨q,1,none⟩=some (.int .i64 x.fr)∧w.cell? ⟨q,2,none⟩=some (.int .i64 x.to)∧w.cell? ⟨q,3,none⟩=some (.string ⟨x.tx.toArray⟩)∧w.cell? ⟨q,4,none⟩=some (.slice x.A x.n x.c)∧w.cell? ⟨q,5,none⟩=some (.slice x.B x.m x.d)∧VIs w t x∧q<w.heap.size
theorem VAt.on {q:Nat} {x:V6} {t:Tree} {w w':World} (h:VAt q x t w) (hb:Below w.heap.size w w'):VAt q x t w':=by
 obtain ⟨h0,h1,h2,h3,h4,h5,h6,h7⟩:=h
 have c:∀ (i:Nat) (v:Value),w.cell? ⟨q,i,none⟩=some v→w'.cell? ⟨q,i,none⟩=some v:=fun i v hv=>(hb.cell (p:=⟨q,i,none⟩) h7).trans hv
 exact ⟨c _ _ h0,c _ _ h1,c _ _ h2,c _ _ h3,c _ _ h4,c _ _ h5,VIs.stay hb t x h6,Nat.lt_of_lt_of_le h7 hb.size⟩
theorem VAt.vis {q:Nat}{x:V6}{t:Tree}{w:World}(h:VAt q x t w):VIs w t x:=h.2.2.2.2.2.2.1
theorem VAt.inside {q:Nat}{x:V6}{t:Tree}{w:World}(h:VAt q x t w):q<w.heap.size:=h.2.2.2.2.2.2.2
theorem VAt.made {x:V6} {t:Tree} {w:World} (h:VIs w t x) (o:Obj):VAt w.heap.size x t ((w.alloc (.cells #[.int .i64 x.kd,.int .i64 x.fr,.int .i64 x.to,.string ⟨x.tx.toArray⟩,.slice x.A x.n x.c,.slice x.B x.m x.d] 27)).alloc o):=by
 have o1:=(Own.fresh w 27 #[.int .i64 x.kd,.int .i64 x.fr,.int .i64 x.to,.string ⟨x.tx.toArray⟩,.slice x.A x.n x.c,.slice x.B x.m x.d]).over o
 exact ⟨o1.at 0,o1.at 1,o1.at 2,o1.at 3,o1.at 4,o1.at 5,VIs.stay (below2 w _ o) t x h,o1.inside⟩
def VdAt (r:Nat)(k:Int)(w:World):Prop:=w.cell? ⟨r,0,none⟩=some (.int .i64 k)∧r<w.heap.size
theorem VdAt.on {r:Nat}{k:Int}{w w':World}(h:VdAt r k w)(hb:Below w.heap.size w w'):VdAt r k w':=⟨(hb.cell (p:=⟨r,0,none⟩) h.2).trans h.1,Nat.lt_of_lt_of_le h.2 hb.size⟩
theorem VdAt.made (w:World) (o:Obj) (k p:Int):VdAt (w.heap.size+1) k ((w.alloc o).alloc (.cells #[.int .i64 k,.int .i64 p] 29)):=by
 have o2:=Own.fresh (w.alloc o) 29 #[.int .i64 k,.int .i64 p]
 rw[new_size] at o2
 exact ⟨o2.at 0,o2.inside⟩
def BkAt (W:World)(q:Nat)(x:V6)(t:Tree)(w:World):Prop:=w.cell? ⟨q,0,none⟩=some (.int .i64 x.kd)∧w.cell? ⟨q,1,none⟩=some (.int .i64 x.fr)∧w.cell? ⟨q,2,none⟩=some (.int .i64 x.to)∧w.cell? ⟨q,3,none⟩=some (.string ⟨x.tx.toArray⟩)∧w.cell? ⟨q,4,none⟩=some (.slice x.A x.n x.c)∧w.cell? ⟨q,5,none⟩=some (.slice x.B x.m x.d)∧VIs w t x∧q<w.heap.size∧Below W.heap.size W w
theorem BkAt.of {W:World} {q:Nat} {x:V6} {t:Tree} {w:World} (h:VAt q x t w) (hb:Below W.heap.size W w):BkAt W q x t w:=by
 obtain ⟨h0,h1,h2,h3,h4,h5,h6,h7⟩:=h
 exact ⟨h0,h1,h2,h3,h4,h5,h6,h7,hb⟩
theorem BkAt.both {W:World} {q:Nat} {x:V6} {t:Tree} {w:World} (h:BkAt W q x t w):VAt q x t w∧Below W.heap.size W w:=by
 obtain ⟨h0,h1,h2,h3,h4,h5,h6,h7,h8⟩:=h
 exact ⟨⟨h0,h1,h2,h3,h4,h5,h6,h7⟩,h8⟩
theorem BkAt.on {W:World}{q:Nat}{x:V6}{t:Tree}{w w':World}(h:BkAt W q x t w)(hb:Below w.heap.size w w'):BkAt W q x t w':=BkAt.of (h.both.1.on hb) (h.both.2.trans (hb.mono h.both.2.size))
theorem BkAt.drew {W:World}{q:Nat}{x:V6}{t:Tree}{w:World}(h:BkAt W q x t w):BkAt W q x t w.drew:=h.on (Below.refl _ _).drew
theorem showBack_big (A:Option Addr) (len cap:Nat) (W:World) (hl:1000<len) (hm:len≤maxLen) :
   Calls Tryz.prog 3 #[.slice A len cap] W fun e w'=>e=.returned (.bool true)∧Below W.heap.size W w':=by
 unfold maxLen at hm
 go_enter Tryz.func3,Tryz.ntmps3
 go_wp2_with (go_at_call 4;refine (alive11_any _).mono ?_;rintro e w1 ⟨rfl,hb1⟩;have HB:=hid hb1;clear hb1)
 go_ret
 exact ⟨rfl,HB.out⟩
theorem parse_cells (C:TreeD Tab) (A:Option Addr) (len cap:Nat) (l:List UInt8) (W:World) (hT:Tab W) (k:Int) (p:Nat) (h2:len≤100000000) (hk:(parseP l 60).2.1=k∧(parseP l 60).2.2=p) (w:World) (hb:Below W.heap.size W w) (hx:Rd w w.heap.size A len (byteCells l)) :
   Calls Tryz.prog 5 #[.slice A len cap,.int .i64 60] w fun e w' => ∃ x:V6,e=.returned (.tuple #[.agg #[.int .i64 x.kd,.int .i64 x.fr,.int .i64 x.to,.string ⟨x.tx.toArray⟩,.slice x.A x.n x.c,.slice x.B x.m x.d],.agg #[.int .i64 k,.int .i64 p]])∧(k=1→VIs w' (treeP l 60) x)∧Below w.heap.size w w':=by
 have h:=C.parse A len cap l 60 w hx h2 (by decide) (by decide) (C.lasts W w hT hb)
 rw[hk.1,hk.2] at h
 exact h
theorem parse_good (C:TreeD Tab) (A:Option Addr) (len cap:Nat) (l:List UInt8) (W:World) (hT:Tab W) (p:Nat) (h2:len≤100000000) (hk:(parseP l 60).2.1=1∧(parseP l 60).2.2=p) (w:World) (hb:Below W.heap.size W w) (hx:Rd w w.heap.size A len (byteCells l)) :
   Calls Tryz.prog 5 #[.slice A len cap,.int .i64 60] w fun e w' => ∃ x:V6,e=.returned (.tuple #[.agg #[.int .i64 x.kd,.int .i64 x.fr,.int .i64 x.to,.string ⟨x.tx.toArray⟩,.slice x.A x.n x.c,.slice x.B x.m x.d],.agg #[.int .i64 1,.int .i64 p]])∧VIs w' (treeP l 60) x∧Below w.heap.size w w' :=
 (parse_cells C A len cap l W hT 1 p h2 hk w hb hx).mono fun e w' ⟨x,h1,h2,h3⟩=>⟨x,h1,h2 rfl,h3⟩
theorem showBack_no (C:TreeD Tab) (A:Option Addr) (len cap:Nat) (l:List UInt8) (W:World) (hT:Tab W) (hx:Rd W W.heap.size A len (byteCells l)) (hl:len≤1000) (k:Int) (p:Nat) (hk:(parseP l 60).2.1=k∧(parseP l 60).2.2=p) (hn:(k != 1)=true) :
   Calls Tryz.prog 3 #[.slice A len cap] W fun e w'=>e=.returned (.bool true)∧Below W.heap.size W w':=by
 have HP:=hid (fun w (hb:Below W.heap.size W w)=>parse_cells C A len cap l W hT k p (by omega) hk w hb ((hx.stay hb).more hb.size))
 clear hx hk
 go_enter Tryz.func3,Tryz.ntmps3
 go_wp2_with (first
   | (go_at_call 4;refine (alive11_any _).mono ?_;rintro e w1 ⟨rfl,hb1⟩;have HB:=hid hb1;clear hb1)
   | (go_at_call 5
      go_must (
        refine (HP.out _ HB.out).mono ?_
        rintro e w2 ⟨x,rfl,_,hb2⟩
        have HB2:=hid ((HB.out.trans (hb2.mono HB.out.size)).trans ((below2 w2 (.cells #[.int .i64 x.kd,.int .i64 x.fr,.int .i64 x.to,.string ⟨x.tx.toArray⟩,.slice x.A x.n x.c,.slice x.B x.m x.d] 27) (.cells #[.int .i64 k,.int .i64 p] 29)).mono (HB.out.trans (hb2.mono HB.out.size)).size))
        clear hb2)))
 go_ret
 exact ⟨rfl,HB2.out⟩
set_option maxHeartbeats 16000000 in
theorem showBack_yes (C:TreeD Tab) (A:Option Addr) (len cap:Nat) (l:List UInt8) (W:World) (hT:Tab W) (hx:Rd W W.heap.size A len (byteCells l)) (hl:len≤1000) (p:Nat) (hk:(parseP l 60).2.1=1∧(parseP l 60).2.2=p) :
   Calls Tryz.prog 3 #[.slice A len cap] W fun e w'=>e=.returned (.bool true)∧Below W.heap.size W w':=by
 have hll:l.length=len:=by have:=hx.1;rwa [byteCells_length] at this
 obtain ⟨hw,hz⟩:=wri_tree l (by omega) 60 hk.1
 obtain ⟨a1,a2,b1,b2,a3,b3,a4⟩:=text_twice l 60 hk.1
 have HP:=hid (fun w (hb:Below W.heap.size W w)=>parse_good C A len cap l W hT p (by omega) hk w hb ((hx.stay hb).more hb.size))
 have HQ1:=hid (fun (g c:Nat) w (hb:Below W.heap.size W w) (hr:Rd w w.heap.size (some ⟨g,0,none⟩) (showT (treeP l 60)).length (byteCells (showT (treeP l 60))))=>parse_good C (some ⟨g,0,none⟩) _ c _ W hT (parseP (showT (treeP l 60)) 60).2.2 hw.le ⟨a1,rfl⟩ w hb hr)
 have HQ2:=hid (fun (g c:Nat) w (hb:Below W.heap.size W w) (hr:Rd w w.heap.size (some ⟨g,0,none⟩) (lineT 0 (treeP l 60)).length (byteCells (lineT 0 (treeP l 60))))=>parse_good C (some ⟨g,0,none⟩) _ c _ W hT (parseP (lineT 0 (treeP l 60)) 60).2.2 hw.le' ⟨b1,rfl⟩ w hb hr)
 have hw1:=wri_same hw a2
 have hw2:=wri_same hw b2
 have KT:=hid (fun (q:Nat) (x:V6) (w:World) (h:BkAt W q x (treeP l 60) w)=>text_any _ x w h.both.1.vis hw.ok hw.cnt hw.ne (Nat.le_trans hw.le (by decide)))
 have KL:=hid (fun (q:Nat) (x:V6) (w:World) (h:BkAt W q x (treeP l 60) w)=>lines_any _ x w h.both.1.vis hw.ok hw.cnt hw.ne' (Nat.le_trans hw.le' (by decide)))
 have KT1:=hid (fun (x:V6) (w:World) (h:VIs w (treeP (showT (treeP l 60)) 60) x)=>text_any _ x w h hw1.ok hw1.cnt hw1.ne (Nat.le_trans hw1.le (by decide)))
 have KT2:=hid (fun (x:V6) (w:World) (h:VIs w (treeP (lineT 0 (treeP l 60)) 60) x)=>text_any _ x w h hw2.ok hw2.cnt hw2.ne (Nat.le_trans hw2.le (by decide)))
 have KL1:=hid (fun (x:V6) (w:World) (h:VIs w (treeP (showT (treeP l 60)) 60) x)=>lines_any _ x w h hw1.ok hw1.cnt hw1.ne' (Nat.le_trans hw1.le' (by decide)))
 rw[a3] at KT1
 rw[b3] at KT2
 rw[a4] at KL1
 have KS1:=hid (fun (x y:V6) (w:World) (hb:Below W.heap.size W w) (h:VIs w (treeP l 60) x) (g:VIs w (treeP (showT (treeP l 60)) 60) y)=>show Calls Tryz.prog 8 #[.agg #[.int .i64 x.kd,.int .i64 x.fr,.int .i64 x.to,.string ⟨x.tx.toArray⟩,.slice x.A x.n x.c,.slice x.B x.m x.d],.agg #[.int .i64 y.kd,.int .i64 y.fr,.int .i64 y.to,.string ⟨y.tx.toArray⟩,.slice y.A y.n y.c,.slice y.B y.m y.d]] w fun e w'=>e=.returned (.bool true)∧Below w.heap.size w w' from by
   have h:=C.same _ _ x y w h g (by omega) (C.lasts W w hT hb)
   rw[a2] at h
   exact h)
 have KS2:=hid (fun (x y:V6) (w:World) (hb:Below W.heap.size W w) (h:VIs w (treeP l 60) x) (g:VIs w (treeP (lineT 0 (treeP l 60)) 60) y)=>show Calls Tryz.prog 8 #[.agg #[.int .i64 x.kd,.int .i64 x.fr,.int .i64 x.to,.string ⟨x.tx.toArray⟩,.slice x.A x.n x.c,.slice x.B x.m x.d],.agg #[.int .i64 y.kd,.int .i64 y.fr,.int .i64 y.to,.string ⟨y.tx.toArray⟩,.slice y.A y.n y.c,.slice y.B y.m y.d]] w fun e w'=>e=.returned (.bool true)∧Below w.heap.size w w' from by
   have h:=C.same _ _ x y w h g (by omega) (C.lasts W w hT hb)
   rw[b2] at h
   exact h)
 have CV1:=hid (fun w=>conv_str w ⟨(showT (treeP l 60)).toArray⟩)
 have CV2:=hid (fun w=>conv_str w ⟨(lineT 0 (treeP l 60)).toArray⟩)
 have z1:(⟨(showT (treeP l 60)).toArray⟩:ByteArray).size=(showT (treeP l 60)).length:=rfl
 have z2:(⟨(lineT 0 (treeP l 60)).toArray⟩:ByteArray).size=(lineT 0 (treeP l 60)).length:=rfl
 have d1:(⟨(showT (treeP l 60)).toArray⟩:ByteArray).data.toList=showT (treeP l 60):=rfl
 have d2:(⟨(lineT 0 (treeP l 60)).toArray⟩:ByteArray).data.toList=lineT 0 (treeP l 60):=rfl
 rw[z1,d1] at CV1
 rw[z2,d2] at CV2
 generalize (parseP (showT (treeP l 60)) 60).2.2=p1 at *
 generalize (parseP (lineT 0 (treeP l 60)) 60).2.2=p2 at *
 generalize treeP (showT (treeP l 60)) 60=u1 at *
 generalize treeP (lineT 0 (treeP l 60)) 60=u2 at *
 generalize (⟨(showT (treeP l 60)).toArray⟩:ByteArray)=T1 at *
 generalize (⟨(lineT 0 (treeP l 60)).toArray⟩:ByteArray)=T2 at *
 generalize showT (treeP l 60)=s1 at *
 generalize lineT 0 (treeP l 60)=s2 at *
 generalize treeP l 60=t at *
 generalize s1.length=n1 at *
 generalize s2.length=n2 at *
 have e1:(T1.toList==T1.toList)=true:=by simp
 have e2:(T2.toList==T2.toList)=true:=by simp
 clear hx hk hll hw hz a1 a2 b1 b2 a3 b3 a4 hw1 hw2 z1 z2 d1 d2
 go_enter Tryz.func3,Tryz.ntmps3
 go_upto_region 8 with (first
   | (go_at_call 4;refine (alive11_any _).mono ?_;rintro e w1 ⟨rfl,hb1⟩;have HB:=hid hb1;clear hb1)
   | (go_at_call 5
      go_must (
        refine (HP.out _ HB.out).mono ?_
        rintro e w2 ⟨x,rfl,hv,hb2⟩
        have hb3:=HB.out.trans (hb2.mono HB.out.size)
        have HS:=hid (BkAt.of (W:=W) (VAt.made hv (.cells #[.int .i64 1,.int .i64 p] 29)) (hb3.trans ((below2 w2 (.cells #[.int .i64 x.kd,.int .i64 x.fr,.int .i64 x.to,.string ⟨x.tx.toArray⟩,.slice x.A x.n x.c,.slice x.B x.m x.d] 27) (.cells #[.int .i64 1,.int .i64 p] 29)).mono hb3.size)))
        clear hb2 hb3 hv)))
 change Code.wp _ _ _ _ ((w2.alloc (.cells #[.int .i64 x.kd,.int .i64 x.fr,.int .i64 x.to,.string ⟨x.tx.toArray⟩,.slice x.A x.n x.c,.slice x.B x.m x.d] 27)).alloc (.cells #[.int .i64 1,.int .i64 p] 29))
 have hS:=HS.out
 generalize (w2.alloc (.cells #[.int .i64 x.kd,.int .i64 x.fr,.int .i64 x.to,.string ⟨x.tx.toArray⟩,.slice x.A x.n x.c,.slice x.B x.m x.d] 27)).alloc (.cells #[.int .i64 1,.int .i64 p] 29)=wP at hS ⊢
 generalize w2.heap.size=q at hS ⊢
 clear HS HB HP
 go_region_held3 (fun w'=>w'.cell? ⟨q,0,none⟩=some (.int .i64 x.kd)∧w'.cell? ⟨q,1,none⟩=some (.int .i64 x.fr)∧w'.cell? ⟨q,2,none⟩=some (.int .i64 x.to)∧w'.cell? ⟨q,3,none⟩=some (.string ⟨x.tx.toArray⟩)∧w'.cell? ⟨q,4,none⟩=some (.slice x.A x.n x.c)∧w'.cell? ⟨q,5,none⟩=some (.slice x.B x.m x.d)∧VIs w' t x∧q<w'.heap.size∧Below W.heap.size W w')
   (first|assumption|exact BkAt.on (by assumption) (by assumption)|exact BkAt.drew (by assumption))
   (first
     | (go_at_call 6;refine (KT.out q x _ (by assumption)).mono ?_;rintro e w' ⟨rfl,hb'⟩)
     | (go_at_call 7;refine (KL.out q x _ (by assumption)).mono ?_;rintro e w' ⟨rfl,hb'⟩))
 all_goals
   have hB:BkAt W q x t w':=by assumption
   have HX:=hid hB.both.1
   have HW:=hid hB.both.2
   clear hB hS hb'
   obtain ⟨c1,wa,cv1,ra,ba⟩:=CV1.out w'
   have HRA:=hid ra
   have HXA:=hid (HX.out.on ba)
   have HWA:=hid (HW.out.trans (ba.mono HW.out.size))
   clear ra ba HX HW
   go_upto_region 10 with (
     go_at_call 5
     go_must (
       refine (HQ1.out _ c1 wa HWA.out HRA.out).mono ?_
       rintro e w3 ⟨y,rfl,hv,hb3⟩
       have B3:=HWA.out.trans (hb3.mono HWA.out.size)
       have b4:=below2 w3 (.cells #[.int .i64 y.kd,.int .i64 y.fr,.int .i64 y.to,.string ⟨y.tx.toArray⟩,.slice y.A y.n y.c,.slice y.B y.m y.d] 27) (.cells #[.int .i64 1,.int .i64 p1] 29)
       have HNB:=hid (VAt.made hv (.cells #[.int .i64 1,.int .i64 p1] 29))
       have HVDB:=hid (VdAt.made w3 (.cells #[.int .i64 y.kd,.int .i64 y.fr,.int .i64 y.to,.string ⟨y.tx.toArray⟩,.slice y.A y.n y.c,.slice y.B y.m y.d] 27) 1 p1)
       have HXB:=hid ((HXA.out.on hb3).on b4)
       have HWB:=hid (B3.trans (b4.mono B3.size))
       clear B3 b4 hv hb3))
   change Code.wp _ _ _ _ ((w3.alloc (.cells #[.int .i64 y.kd,.int .i64 y.fr,.int .i64 y.to,.string ⟨y.tx.toArray⟩,.slice y.A y.n y.c,.slice y.B y.m y.d] 27)).alloc (.cells #[.int .i64 1,.int .i64 p1] 29))
   generalize (w3.alloc (.cells #[.int .i64 y.kd,.int .i64 y.fr,.int .i64 y.to,.string ⟨y.tx.toArray⟩,.slice y.A y.n y.c,.slice y.B y.m y.d] 27)).alloc (.cells #[.int .i64 1,.int .i64 p1] 29)=wb at HNB HVDB HXB HWB ⊢
   generalize w3.heap.size=qy at HNB HVDB ⊢
   clear cv1 HXA HRA HWA HQ1
   obtain ⟨c2,wc,cv2,rc,bc⟩:=CV2.out wb
   have HRC:=hid rc
   have HXC:=hid (HXB.out.on bc)
   have HYC:=hid (HNB.out.on bc)
   have HVC:=hid (HVDB.out.on bc)
   have HWC:=hid (HWB.out.trans (bc.mono HWB.out.size))
   clear rc bc HXB HNB HVDB HWB
   go_upto_region 11 with (
     go_at_call 5
     go_must (
       refine (HQ2.out _ c2 wc HWC.out HRC.out).mono ?_
       rintro e w4 ⟨z,rfl,hv,hb3⟩
       have B3:=HWC.out.trans (hb3.mono HWC.out.size)
       have b4:=below2 w4 (.cells #[.int .i64 z.kd,.int .i64 z.fr,.int .i64 z.to,.string ⟨z.tx.toArray⟩,.slice z.A z.n z.c,.slice z.B z.m z.d] 27) (.cells #[.int .i64 1,.int .i64 p2] 29)
       have HND:=hid (VAt.made hv (.cells #[.int .i64 1,.int .i64 p2] 29))
       have HVDD:=hid (VdAt.made w4 (.cells #[.int .i64 z.kd,.int .i64 z.fr,.int .i64 z.to,.string ⟨z.tx.toArray⟩,.slice z.A z.n z.c,.slice z.B z.m z.d] 27) 1 p2)
       have HX0:=hid ((HXC.out.on hb3).on b4)
       have HY0:=hid ((HYC.out.on hb3).on b4)
       have HV0:=hid ((HVC.out.on hb3).on b4)
       have HWD:=hid (B3.trans (b4.mono B3.size))
       clear B3 b4 hv hb3))
   change Code.wp _ _ _ _ ((w4.alloc (.cells #[.int .i64 z.kd,.int .i64 z.fr,.int .i64 z.to,.string ⟨z.tx.toArray⟩,.slice z.A z.n z.c,.slice z.B z.m z.d] 27)).alloc (.cells #[.int .i64 1,.int .i64 p2] 29))
   generalize (w4.alloc (.cells #[.int .i64 z.kd,.int .i64 z.fr,.int .i64 z.to,.string ⟨z.tx.toArray⟩,.slice z.A z.n z.c,.slice z.B z.m z.d] 27)).alloc (.cells #[.int .i64 1,.int .i64 p2] 29)=wd at HND HVDD HX0 HY0 HV0 HWD ⊢
   generalize w4.heap.size=qz at HND HVDD ⊢
   clear cv2 HXC HYC HVC HRC HWC HQ2
   obtain ⟨v0,_⟩:=HV0.out
   obtain ⟨v1,_⟩:=HVDD.out
   have HZ0:=hid HND.out
   have HW0:=hid HWD.out
   obtain ⟨x0,x1,x2,x3,x4,x5,_,_⟩:=HX0.out
   obtain ⟨y0,y1,y2,y3,y4,y5,_,_⟩:=HY0.out
   clear HV0 HVDD HND HWD CV1 CV2
   go_wp2_with (first
     | (go_at_call 8;with_reducible refine (KS1.out x y _ HW0.out HX0.out.vis HY0.out.vis).mono ?_
        go_must (
          rintro e v11 ⟨rfl,hb⟩
          have HX1:=hid (HX0.out.on hb)
          have HY1:=hid (HY0.out.on hb)
          have HZ1:=hid (HZ0.out.on hb)
          have HW1:=hid (HW0.out.trans (hb.mono HW0.out.size))
          obtain ⟨x10,x11,x12,x13,x14,x15,_,_⟩:=HX1.out
          obtain ⟨z10,z11,z12,z13,z14,z15,_,_⟩:=HZ1.out
          clear hb))
     | (go_at_call 8;with_reducible refine (KS2.out x z _ HW1.out HX1.out.vis HZ1.out.vis).mono ?_
        go_must (
          rintro e v12 ⟨rfl,hb⟩
          have HX2:=hid (HX1.out.on hb)
          have HY2:=hid (HY1.out.on hb)
          have HZ2:=hid (HZ1.out.on hb)
          have HW2:=hid (HW1.out.trans (hb.mono HW1.out.size))
          obtain ⟨y20,y21,y22,y23,y24,y25,_,_⟩:=HY2.out
          clear hb))
     | (go_at_call 6;with_reducible refine (KT1.out y _ HY2.out.vis).mono ?_
        go_must (
          rintro e v13 ⟨rfl,hb⟩
          have HX3:=hid (HX2.out.on hb)
          have HY3:=hid (HY2.out.on hb)
          have HZ3:=hid (HZ2.out.on hb)
          have HW3:=hid (HW2.out.trans (hb.mono HW2.out.size))
          obtain ⟨z30,z31,z32,z33,z34,z35,_,_⟩:=HZ3.out
          clear hb))
     | (go_at_call 6;with_reducible refine (KT2.out z _ HZ3.out.vis).mono ?_
        go_must (
          rintro e v14 ⟨rfl,hb⟩
          have HX4:=hid (HX3.out.on hb)
          have HY4:=hid (HY3.out.on hb)
          have HZ4:=hid (HZ3.out.on hb)
          have HW4:=hid (HW3.out.trans (hb.mono HW3.out.size))
          obtain ⟨y40,y41,y42,y43,y44,y45,_,_⟩:=HY4.out
          clear hb))
     | (go_at_call 7;with_reducible refine (KL1.out y _ HY4.out.vis).mono ?_
        go_must (
          rintro e v15 ⟨rfl,hb⟩
          have HX5:=hid (HX4.out.on hb)
          have HY5:=hid (HY4.out.on hb)
          have HZ5:=hid (HZ4.out.on hb)
          have HW5:=hid (HW4.out.trans (hb.mono HW4.out.size))
          clear hb)))
   go_ret
   exact ⟨rfl,HW5.out⟩
theorem showBack_walk (A:Option Addr) (len cap:Nat) (z:List Int) (W:World) (hT:Tab W) (h:IsRow .u8 W A len cap z) :
   Calls Tryz.prog 3 #[.slice A len cap] W fun e w'=>e=.returned (.bool true)∧Below W.heap.size W w':=by
 obtain ⟨hc,hm⟩:=row_len_cap h
 obtain ⟨l,hx⟩:=h.bytes
 by_cases hl:len≤1000
 ·by_cases hk:(parseP l 60).2.1=1
  ·exact showBack_yes treeD A len cap l W hT hx hl _ ⟨hk,rfl⟩
  ·exact showBack_no treeD A len cap l W hT hx hl _ _ ⟨rfl,rfl⟩ (bne_iff_ne.2 hk)
 ·exact showBack_big A len cap W (by omega) (by omega)
end
end Go.Proofs.YtbpilcklglhloaaGreatDoor
