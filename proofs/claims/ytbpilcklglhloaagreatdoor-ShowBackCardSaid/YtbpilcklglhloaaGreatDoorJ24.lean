/- Lemmas. -/
import Derived.Test.YtbpilcklglhloaaGreatDoorJ20
import Derived.Laws.CopyRow
import Derived.Deep.RegionWith
set_option maxRecDepth 100000
set_option maxHeartbeats 8000000
set_option linter.unusedVariables false
namespace Go.Proofs.YtbpilcklglhloaaGreatDoor
open Go.Lib (hid)
section
open Go.RowKit
def LX (k:Int) (over:Bool) (within from_:Int) (q:List Value) (na:Int) (dg:Value) (wt:ByteArray) (wa:Int):List Value :=
 [.int .i64 k,.bool over,.int .i64 within,.int .i64 from_]++q++[.int .i64 na,dg,.string wt,.int .i64 wa]
def zq:List Value:=K4.QL 0 0 0 0 0 0 none (List.replicate 64 0) 0
def LZ (k:Int)(over:Bool):List Value:=LX k over 0 0 zq 0 (.slice none 0 0) ⟨#[]⟩ 0
theorem zero_lex (w:World):(zeroValue 98).run Tryz.prog w=.ok (.agg (LZ 0 false).toArray) w:=by kernel_rfl
theorem LZ_len (k:Int)(o:Bool):(LZ k o).length=80:=by simp[LZ,LX,zq,K4.QL]
theorem LZ_put (k:Int)(o:Bool):(((LZ 0 false).toArray.setIfInBounds 0 (.int .i64 k)).setIfInBounds 1 (.bool o))=(LZ k o).toArray:=by simp[LZ,LX]
theorem LZ_one (k:Int) (o:Bool):∀ v∈LZ k o,v.oneCell'=true:=by
 intro v hv
 have h:(LZ k o).all (·.oneCell')=true:=by simp[LZ,LX,zq,K4.QL,Value.oneCell']
 exact List.all_eq_true.1 h v hv
theorem own_row {w:World} {b:Nat} {t:TypeId} {cs:Array Value} (h:Own w b t cs) (l:List Value) (hl:l.length=cs.size) (h1:∀ v∈l,v.oneCell'=true) :
   (storeCells ⟨b,0,none⟩ l).run Tryz.prog w=.ok () (w.setRow b l.toArray)∧Own (w.setRow b l.toArray) b t l.toArray∧Turned b w (w.setRow b l.toArray):=by
 have hs:=run_storeCells_at (P:=Tryz.prog) b 0 t l 0 cs w h (by omega) h1
 have e:cs.toList.take (0+0)++l++cs.toList.drop (0+0+l.length)=l:=by
   rw[List.drop_of_length_le (by simp;omega)]
   simp
 rw[e] at hs
 refine ⟨hs,setRow_heap w b cs _ t _ h,rfl,rfl,rfl,by simp[World.setRow],fun k hk hne => ?_⟩
 show (w.heap.modify b _)[k]?=_
 rw[Array.getElem?_modify,if_neg (fun e=>hne e.symm)]
theorem end_any (b:Nat) (k:Int) (cs:List Value) (w:World) (h:Own w b 98 cs.toArray) (hl:cs.length=80) (h0:cs[0]?=some (.int .i64 k)) :
   Calls Tryz.prog 35 #[.pointer (some ⟨b,0,none⟩)] w fun e w'=>e=.returned (.tuple #[])∧Own w' b 98 (LZ k true).toArray∧Turned b w w':=by
 have c0:=h.at 0
 have f0:=h.free 0
 simp[h0] at c0
 obtain ⟨hst,ho,ht⟩:=own_row h (LZ k true) (by simp[LZ_len,hl]) (LZ_one _ _)
 have HO:=hid ho
 have HT:=hid ht
 have hz0:=fun w=>zero_lex w
 have hz2:=LZ_put k true
 have hz1:(LZ 0 false).toArray.size=80:=by simp[LZ_len]
 generalize (LZ 0 false).toArray=z at *
 have hz3:¬ z = #[]:=fun e=>by rw[e] at hz1;simp at hz1
 have hz4:¬ z.size<2:=by omega
 clear h ho ht
 go_enter Tryz.func35,Tryz.ntmps35
 go_wp2
 go_end0
 exact ⟨rfl,HO.out,HT.out⟩
theorem tok_size:(Tryz.prog.info? 54).map (·.size)=some 5:=by kernel_rfl
theorem LZ_put1 (k:Int):((LZ 0 false).toArray.setIfInBounds 0 (.int .i64 k))=(LZ k false).toArray:=by simp[LZ,LX]
theorem leave_any (b:Nat) (k wi f to:Int) (s:ByteArray) (cs:List Value) (w:World) (h:Own w b 98 cs.toArray) (hl:cs.length=80) (h0:cs[0]?=some (.int .i64 k)) (h2:cs[2]?=some (.int .i64 wi)) (h3:cs[3]?=some (.int .i64 f)) :
   Calls Tryz.prog 37 #[.pointer (some ⟨b,0,none⟩),.int .i64 to,.string s] w fun e w'=>e=.returned (.agg #[.int .i64 wi,.bool false,.int .i64 f,.int .i64 to,.string s])∧Own w' b 98 (LZ k false).toArray∧Turned b w w':=by
 have c0:=h.at 0
 have c2:=h.at 2
 have c3:=h.at 3
 have f0:=h.free 0
 have hin:=h.inside
 simp[h0,h2,h3] at c0 c2 c3
 have hz0:=fun w=>zero_lex w
 have hz2:=LZ_put1 k
 have hz1:(LZ 0 false).toArray.size=80:=by simp[LZ_len]
 generalize (LZ 0 false).toArray=z at *
 have hz3:¬ z = #[]:=fun e=>by rw[e] at hz1;simp at hz1
 have hz4:¬ z.size<1:=by omega
 have H:=hid h
 clear h
 go_enter Tryz.func37,Tryz.ntmps37
 go_wp2
 go_region
 generalize hw2:World.drew (World.alloc _ _)=w2
 have H2:Own w2 b 98 cs.toArray∧Own w2 w.heap.size 54 #[.int .i64 0,.bool false,.int .i64 0,.int .i64 0,.string ⟨#[]⟩]∧Own w2 (w.heap.size+1) 54 #[.int .i64 wi,.bool false,.int .i64 f,.int .i64 to,.string s]∧Turned b w w2:=by
   subst hw2
   have e1:(w.alloc (.cells #[.int .i64 0,.bool false,.int .i64 0,.int .i64 0,.string ⟨#[]⟩] 54)).heap.size=w.heap.size+1:=by simp
   refine ⟨(H.out.over _).over _,(Own.fresh w _ _).over _,?_,Turned.of_below ((below2 w _ _).drew) rfl⟩
   have:=Own.fresh (w.alloc (.cells #[.int .i64 0,.bool false,.int .i64 0,.int .i64 0,.string ⟨#[]⟩] 54)) 54 #[.int .i64 wi,.bool false,.int .i64 f,.int .i64 to,.string s]
   rw[e1] at this
   exact this
 clear hw2 c0 c2 c3 f0
 obtain ⟨ho2,hA2,hB2,ht2⟩:=H2
 have c0:=ho2.at 0
 have f0:=ho2.free 0
 simp[h0] at c0
 obtain ⟨hst,ho3,ht3⟩:=own_row ho2 (LZ k false) (by simp[LZ_len,hl]) (LZ_one _ _)
 have hne1:w.heap.size≠b:=by omega
 have hne2:w.heap.size+1≠b:=by omega
 have hA3:Own (w2.setRow b (LZ k false).toArray) w.heap.size _ _:=(ht3.2.2.2.2 _ hA2.inside hne1).trans hA2
 have hB3:Own (w2.setRow b (LZ k false).toArray) (w.heap.size+1) _ _:=(ht3.2.2.2.2 _ hB2.inside hne2).trans hB2
 have a0:=hA3.at 0
 have a1:=hA3.at 1
 have a2:=hA3.at 2
 have a3:=hA3.at 3
 have a4:=hA3.at 4
 have g0:=hA3.free 0
 have g1:=hA3.free 1
 have g2:=hA3.free 2
 have g3:=hA3.free 3
 have g4:=hA3.free 4
 have b0:=hB3.at 0
 have b1:=hB3.at 1
 have b2:=hB3.at 2
 have b3:=hB3.at 3
 have b4:=hB3.at 4
 simp at a0 a1 a2 a3 a4 b0 b1 b2 b3 b4
 have HO:=hid ho3
 have HT:=hid (ht2.trans ht3)
 have HA:=hid hA3
 clear ho2 hA2 hB2 ht2 ho3 ht3 hA3 hB3
 go_wp2
 generalize hw4:World.setCell (World.setCell (World.setCell (World.setCell (World.setCell _ _ _) _ _) _ _) _ _) _ _=w4
 have H4:Own w4 w.heap.size 54 #[.int .i64 wi,.bool false,.int .i64 f,.int .i64 to,.string s]∧Own w4 b 98 (LZ k false).toArray∧Turned b w w4:=by
   subst hw4
   refine ⟨by simpa using ((((HA.out.put 0 (.int .i64 wi)).put 1 (.bool false)).put 2 (.int .i64 f)).put 3 (.int .i64 to)).put 4 (.string s),?_,?_⟩
   ·have hb:b≠w.heap.size:=by omega
    exact ((((HO.out.past (p:=⟨w.heap.size,0,none⟩) hb _).past (p:=⟨w.heap.size,1,none⟩) hb _).past (p:=⟨w.heap.size,2,none⟩) hb _).past (p:=⟨w.heap.size,3,none⟩) hb _).past (p:=⟨w.heap.size,4,none⟩) hb _
   ·have ht:Turned w.heap.size (w2.setRow b (LZ k false).toArray) _:=((((((Turned.refl w.heap.size _).put 0 (.int .i64 wi)).put 1 (.bool false)).put 2 (.int .i64 f)).put 3 (.int .i64 to)).put 4 (.string s))
    exact ⟨ht.1.trans HT.out.1,ht.2.1.trans HT.out.2.1,ht.2.2.1.trans HT.out.2.2.1,Nat.le_trans HT.out.2.2.2.1 ht.2.2.2.1,fun j hj hne=>(ht.2.2.2.2 j (by have:=HT.out.2.2.2.1;omega) (by omega)).trans (HT.out.2.2.2.2 j hj hne)⟩
 clear hw4 a0 a1 a2 a3 a4 g0 g1 g2 g3 g4 b0 b1 b2 b3 b4
 (try simp only [Exit.inBlock,Exit.then])
 refine bodyPost_ret (results_cell_row rfl _ _ w.heap.size _ _ (0,0) _ rfl H4.1 Tryz.underlying54 rfl tok_size) rfl ?_
 exact ⟨rfl,H4.2⟩
end
section
open Go.RowKit
theorem fwhole (b:Nat) (a:Int) (w:World) (c0:w.cell? ⟨b,76,none⟩=some (.int .i64 a)) (ha:StA a) :
   Calls Tryz.prog 36 #[.pointer (some ⟨b,76,none⟩)] w fun e w'=>e=.returned (.bool (whI a))∧w=w':=by
 have HW:=hid (whole_in a ha)
 go_enter Tryz.func36,Tryz.ntmps36
 go_wp2_with (go_at_call 64;refine (HW.out _).mono ?_;rintro e w' ⟨rfl,rfl⟩)
 go_ret
 exact ⟨rfl,rfl⟩
theorem fnum_goes (b:Nat) (c a:Int) (w:World) (c0:w.cell? ⟨b,76,none⟩=some (.int .i64 a)) (f0:w.frozen? ⟨b,76,none⟩=false) (ha:StA a) (hc:nxI a c≠0) :
   Calls Tryz.prog 89 #[.pointer (some ⟨b,76,none⟩),.int .u8 c] w fun e w'=>e=.returned (.int .i64 0)∧w'=w.setCell ⟨b,76,none⟩ (.int .i64 (nxI a c)):=by
 have HB:=hid (behind_in a c ha)
 have hc':(nxI a c==0)=false:=beq_eq_false_iff_ne.2 hc
 generalize nxI a c=x at *
 go_enter Tryz.func89,Tryz.ntmps89
 go_wp2_with (go_at_call 113;refine (HB.out _).mono ?_;rintro e w' ⟨rfl,rfl⟩)
 go_ret
 exact ⟨rfl,rfl⟩
theorem fnum_stays (b:Nat) (c a:Int) (w:World) (c0:w.cell? ⟨b,76,none⟩=some (.int .i64 a)) (ha:StA a) (hc:nxI a c=0) :
   Calls Tryz.prog 89 #[.pointer (some ⟨b,76,none⟩),.int .u8 c] w fun e w'=>e=.returned (.int .i64 (if whI a && !stickI c then 1 else 2))∧w=w':=by
 have hb:=behind_in a c ha
 rw[hc] at hb
 have HB:=hid hb
 have HN:=hid (fun w c0=>fwhole b a w c0 ha)
 have HK:=hid (sticks_any c)
 clear hc hb
 generalize whI a=x at *
 generalize stickI c=y at *
 cases x<;>cases y
 all_goals
   go_enter Tryz.func89,Tryz.ntmps89
   go_wp2_with (first
     | (go_at_call 113;refine (HB.out _).mono ?_;rintro e w' ⟨rfl,rfl⟩)
     | (go_at_call 36;refine (HN.out _ c0).mono ?_;rintro e w' ⟨rfl,rfl⟩)
     | (go_at_call 114;refine (HK.out _).mono ?_;rintro e w' ⟨rfl,rfl⟩))
   go_ret
   exact ⟨rfl,rfl⟩
section
variable (b k:Nat) (t:ByteArray) (c:Int) (w:World)
theorem fword (c0:w.cell? ⟨b,78,none⟩=some (.string t)) (c1:w.cell? ⟨b,79,none⟩=some (.int .i64 k)) (hk:k≤t.size) :
   Calls Tryz.prog 91 #[.pointer (some ⟨b,78,none⟩)] w fun e w'=>e=.returned (.string (t.extract 0 k)) ∧ ∃ q,w'=w.drewN q:=by
 go_enter Tryz.func91,Tryz.ntmps91
 go_wp2
 go_quiet (fail)
 go_wp2
 go_ret
 exact ⟨rfl,_,rfl⟩
theorem fstep_no (c0:w.cell? ⟨b,78,none⟩=some (.string t)) (c1:w.cell? ⟨b,79,none⟩=some (.int .i64 k)) (h0:0<k) (hk:k<t.size) (hc:(t[k].toNat:Int)≠c) :
   Calls Tryz.prog 90 #[.pointer (some ⟨b,78,none⟩),.int .u8 c] w fun e w'=>e=.returned (.int .i64 2)∧w=w':=by
 have g0:((k:Int)==0)=false:=beq_eq_false_iff_ne.2 (by omega)
 have g1:((k:Int)==t.size)=false:=beq_eq_false_iff_ne.2 (by omega)
 have g2:((t[k].toNat:Int) != c)=true:=bne_iff_ne.2 hc
 clear hc
 go_enter Tryz.func90,Tryz.ntmps90
 go_wp2
 go_ret
 exact ⟨rfl,rfl⟩
theorem fstep_goes (c0:w.cell? ⟨b,78,none⟩=some (.string t)) (c1:w.cell? ⟨b,79,none⟩=some (.int .i64 k)) (f0:w.frozen? ⟨b,78,none⟩=false) (f1:w.frozen? ⟨b,79,none⟩=false) (hz:t.size≤5) (h0:0<k) (hk:k+1<t.size) (hc:(t[k].toNat:Int)=c) :
   Calls Tryz.prog 90 #[.pointer (some ⟨b,78,none⟩),.int .u8 c] w fun e w'=>e=.returned (.int .i64 0)∧w'=(w.setCell ⟨b,78,none⟩ (.string t)).setCell ⟨b,79,none⟩ (.int .i64 ((k:Int)+1)):=by
 have g0:((k:Int)==0)=false:=beq_eq_false_iff_ne.2 (by omega)
 have g1:((k:Int)==t.size)=false:=beq_eq_false_iff_ne.2 (by omega)
 have g2:((t[k].toNat:Int) != c)=false:=by simp[hc]
 have g3:((k:Int)+1==t.size)=false:=beq_eq_false_iff_ne.2 (by omega)
 have k1:k<t.size:=by omega
 clear hc
 go_enter Tryz.func90,Tryz.ntmps90
 go_wp2
 go_ret
 exact ⟨rfl,rfl⟩
theorem fstep_done (c0:w.cell? ⟨b,78,none⟩=some (.string t)) (c1:w.cell? ⟨b,79,none⟩=some (.int .i64 k)) (f0:w.frozen? ⟨b,78,none⟩=false) (f1:w.frozen? ⟨b,79,none⟩=false) (hz:t.size≤5) (h0:0<k) (k1:k<t.size) (k2:t.size≤k+1) (hc:(t[k].toNat:Int)=c) :
   Calls Tryz.prog 90 #[.pointer (some ⟨b,78,none⟩),.int .u8 c] w fun e w'=>e=.returned (.int .i64 1)∧w'=(w.setCell ⟨b,78,none⟩ (.string t)).setCell ⟨b,79,none⟩ (.int .i64 ((k:Int)+1)):=by
 have g0:((k:Int)==0)=false:=beq_eq_false_iff_ne.2 (by omega)
 have g1:((k:Int)==t.size)=false:=beq_eq_false_iff_ne.2 (by omega)
 have g2:((t[k].toNat:Int) != c)=false:=by simp[hc]
 have g3:((k:Int)+1==t.size)=true:=beq_iff_eq.2 (by omega)
 clear hc
 go_enter Tryz.func90,Tryz.ntmps90
 go_wp2
 go_ret
 exact ⟨rfl,rfl⟩
end
theorem fstep_first (b:Nat) (t t':ByteArray) (c:Int) (hz:1<t'.size) (hc:(t'[0].toNat:Int)=c) (T:TypeId) (cs:Array Value) (w:World) (hT:Tab w) (h:Own w b T cs) (e0:cs[78]?=some (.string t)) (e1:cs[79]?=some (.int .i64 0))
   (hB:∀ w,Tab w→Calls Tryz.prog 115 #[.int .u8 c] w fun e w'=>e=.returned (.string t')∧Below w.heap.size w w') :
   Calls Tryz.prog 90 #[.pointer (some ⟨b,78,none⟩),.int .u8 c] w fun e w'=>e=.returned (.int .i64 0)∧Own w' b T ((cs.setIfInBounds 78 (.string t')).setIfInBounds 79 (.int .i64 1))∧Turned b w w':=by
 have c0:=h.at 78
 have c1:=h.at 79
 rw[e0] at c0
 rw[e1] at c1
 have KB:=hid hB
 clear hB
 have hin:=h.inside
 have g1:((0:Int)==t'.size)=false:=beq_eq_false_iff_ne.2 (by omega)
 have g2:((t'[0].toNat:Int) != c)=false:=by simp[hc]
 have g3:((1:Int)==t'.size)=false:=beq_eq_false_iff_ne.2 (by omega)
 have k1:0<t'.size:=by omega
 clear hc
 go_enter Tryz.func90,Tryz.ntmps90
 go_wp2_with (go_at_call 115;refine (KB.out _ hT).mono ?_;rintro e w' ⟨rfl,hb⟩;have h':=h.stay hb hin;have d0:=h'.at 78;have d1:=h'.at 79;have f0:=h'.free 78;have f1:=h'.free 79;rw[e0] at d0;rw[e1] at d1)
 go_ret
 exact ⟨rfl,(h'.put 78 (.string t')).put 79 (.int .i64 1),((Turned.of_below hb rfl).put 78 _).put 79 _⟩
end
section
open Go.RowKit
def tokAll:List Tok→List Value
 | []=>[]
 | t :: ts=>tokCells t++tokAll ts
theorem tokAll_len:∀ ts:List Tok,(tokAll ts).length=ts.length*5
 | []=>rfl
 | t :: ts=>by simp[tokAll,tokCells,tokAll_len ts];omega
theorem tokAll_append:∀ ts us:List Tok,tokAll (ts++us)=tokAll ts++tokAll us
 | [],us=>rfl
 | t :: ts,us=>by simp[tokAll,tokAll_append ts us]
theorem tokAll_one:∀ ts:List Tok,∀ u∈tokAll ts,u.oneCell'=true
 | [],u,h=>by cases h
 | t :: ts,u,h=>by
   rcases List.mem_append.1 h with h|h
   ·simp[tokCells] at h
    rcases h with rfl|rfl|rfl|rfl|rfl<;>rfl
   ·exact tokAll_one ts u h
theorem tokAll_at:∀ (ts:List Tok) (i:Nat) (t:Tok),ts[i]?=some t → ∀ j,j<5→(tokAll ts)[i*5+j]?=(tokCells t)[j]?
 | [],i,t,h=>by cases h
 | u :: ts,0,t,h=>by
   intro j hj
   obtain rfl:u=t:=by simpa using h
   show (tokCells u++tokAll ts)[0*5+j]?=_
   rw[Nat.zero_mul,Nat.zero_add,List.getElem?_append_left hj]
 | u :: ts,i+1,t,h=>by
   intro j hj
   have:=tokAll_at ts i t (by simpa using h) j hj
   rw[← this]
   show (tokCells u++tokAll ts)[(i+1)*5+j]?=_
   rw[List.getElem?_append_right (by simp[tokCells];omega)]
   congr 1
   simp[tokCells]
   omega
def RdT (w:World) (A:Option Addr) (m:Nat) (ts:List Tok):Prop :=
 ts.length=m∧(0<m → ∃ b o:Nat,A=some ⟨b,o,none⟩∧b<w.heap.size ∧ ∀ j u,(tokAll ts)[j]?=some u→w.cell? ⟨b,o+j,none⟩=some u)
def TRow (w:World)(base:Nat)(v:Value)(ts:List Tok):Prop:=w.ownsRow base 54 5 v ts.length (tokAll ts)
section
variable {w w':World} {base:Nat} {v:Value} {ts:List Tok}
theorem TRow.nil (w:World)(base:Nat):TRow w base (.slice none 0 0) []:=⟨rfl,.inl ⟨rfl,rfl⟩⟩
theorem TRow.form (h:TRow w base v ts):∃ A c,v=.slice A ts.length c∧ts.length≤c∧c≤maxLen∧(0<ts.length → ∃ g,A=some ⟨g,0,none⟩∧base≤g∧g<w.heap.size):=by
 rcases h.2 with ⟨rfl,h0⟩|⟨g,c,cur,rfl,hb,hg,h1,h2,_⟩
 ·exact ⟨none,0,by rw[h0],by omega,by decide,fun h=>by omega⟩
 ·exact ⟨_,c,rfl,h1,h2,fun _=>⟨g,rfl,hb,(Array.getElem?_eq_some_iff.1 hg).1⟩⟩
theorem TRow.stay (h:TRow w base v ts) (hk:∀ g,v.ownBlock=some g→w'.heap[g]?=w.heap[g]?):TRow w' base v ts:=by
 refine ⟨h.1,?_⟩
 rcases h.2 with hn|⟨g,c,cur,rfl,hbg,hg,rest⟩
 ·exact .inl hn
 ·exact .inr ⟨g,c,cur,rfl,hbg,(hk g rfl).trans hg,rest⟩
theorem TRow.low (h:TRow w base v ts) {g:Nat} (hg:v.ownBlock=some g):base≤g∧g<w.heap.size:=by
 rcases h.2 with ⟨rfl,_⟩|⟨g',c,cur,rfl,hb,hh,_⟩
 ·cases hg
 ·obtain rfl:g'=g:=by simpa [Value.ownBlock] using hg
  exact ⟨hb,(Array.getElem?_eq_some_iff.1 hh).1⟩
theorem TRow.rd {A:Option Addr} {n c:Nat} (h:TRow w base (.slice A n c) ts):RdT w A ts.length ts:=by
 refine ⟨rfl,fun hn => ?_⟩
 rcases h.2 with ⟨hv,h0⟩|⟨g,c',cur,hv,hb,hg,_⟩
 ·omega
 ·injection hv with hA hn' hc
  subst hA hn' hc
  have hc:=h.cells (g:=g) rfl
  refine ⟨g,0,rfl,(Array.getElem?_eq_some_iff.1 hg).1,fun j u hu => ?_⟩
  have:=hc j u hu
  rwa [add_none] at this
theorem TRow.one (w:World) (t:Tok) (hb:base≤w.heap.size):TRow (w.alloc (.cells (tokCells t).toArray 54)) base (.slice (some ⟨w.heap.size,0,none⟩) 1 1) [t] :=
 ⟨by simp[tokAll,tokCells],.inr ⟨w.heap.size,1,_,rfl,hb,heap_alloc_new w _,Nat.le_refl _,by decide,by simp[tokCells],by simp[tokAll,tokCells]⟩⟩
end
theorem tok_info:(Tryz.prog.info? 54).map (fun i=>(i.zero,i.size,i.bytes))=some (some (.agg #[.int .i64 0,.bool false,.int .i64 0,.int .i64 0,.string ⟨#[]⟩]),5,48):=by kernel_rfl
theorem run_tok_append (w:World) (base:Nat) (ty:TypeId) (v:Value) (ts:List Tok) (hown:TRow w base v ts) (A:Option Addr) (m c:Nat) (news:List Tok) (hr:RdT w A m news)
   (h63:ts.length+m≤1000000000) (hbase:base≤w.heap.size) :
   ∃ v' w',(Builtin.append_ #[52,52] ty #[v,.slice A m c]).run Tryz.prog w=.ok v' w'∧TRow w' base v' (ts++news)∧w.grownBy w' v.ownBlock∧(v'.ownBlock=v.ownBlock∨v'.ownBlock=some w.heap.size):=by
 obtain ⟨i,hi,hz,hsize,hby⟩:=info_parts tok_info
 have hl:(ts++news).length=ts.length+m:=by rw[List.length_append,hr.1]
 cases A with
 | none =>
   have hm:m=0:=by
     by_cases h:0<m
     ·obtain ⟨b,o,e,_⟩:=hr.2 h
      cases e
     ·omega
   subst hm
   obtain rfl:news=[]:=List.eq_nil_of_length_eq_zero hr.1
   refine ⟨v,w,?_,by simpa using hown,⟨rfl,rfl,rfl,Nat.le_refl _,fun _ _ _=>rfl⟩,.inl rfl⟩
   have ht:=Tryz.underlying52
   rcases hown.2 with ⟨rfl,h0⟩|⟨g,cap,cur,rfl,_,_,hnc,_⟩
   ·simp[Builtin.append_,run_underlying ht,sizeOf,typeInfo,hi,Builtin.lenOf,Builtin.firstCells]
   ·simp[Builtin.append_,run_underlying ht,sizeOf,typeInfo,hi,Builtin.lenOf,Builtin.firstCells,hnc,storeCells]
 | some ad =>
   have hc:∀ j u,(tokAll news)[j]?=some u→w.cell? (ad.add j)=some u:=by
     intro j u hu
     have hm:0<m:=by
       have h1:=hr.1
       have h2:=(List.getElem?_eq_some_iff.1 hu).1
       rw[tokAll_len] at h2
       omega
     obtain ⟨b,o,e,_,h⟩:=hr.2 hm
     have e':ad=⟨b,o,none⟩:=Option.some.inj e
     rw[e',add_none]
     exact h j u hu
   obtain ⟨v',w',h1,h2,h3,_,h5⟩:=run_append_own_at (P:=Tryz.prog) w base 52 ty 54 i _ 5 48 Tryz.underlying52 hi hz hsize hby rfl (by decide) v ts.length (tokAll ts) hown ad m c (tokAll news) (by rw[tokAll_len,hr.1]) hc (tokAll_one news) (by unfold maxLen;omega) (by omega) hbase
   refine ⟨v',w',h1,?_,h3,h5⟩
   unfold TRow
   rw[hl,tokAll_append]
   exact h2
theorem tok_append {ops:Array Oper} {rest:List Oper} {o:Oper} {a:Act} {Q:Exit→Act→World→Prop} (w:World) (hgd:o.guard=none) (s x:Operand) (ho:o.op=.call { callee:=.builtin .append,args:=#[s,x],argTypes:=#[52,52] })
   (base:Nat) (v:Value) (ts:List Tok) (hs:a.eval s=v) (hown:TRow w base v ts) (A:Option Addr) (m c:Nat) (news:List Tok) (hx:a.eval x=.slice A m c) (hr:RdT w A m news)
   (h63:ts.length+m≤1000000000) (hbase:base≤w.heap.size)
   (h:∀ v' w',TRow w' base v' (ts++news)→w.grownBy w' v.ownBlock→(v'.ownBlock=v.ownBlock∨v'.ownBlock=some w.heap.size)→wpList Tryz.prog ops Q rest (a.put o.dst v') w'):wpList Tryz.prog ops Q (o :: rest) a w :=
 wpList_plain hgd fun _ hK=>by
   obtain ⟨v',w',hrun,h2,h3,h5⟩:=run_tok_append w base o.type v ts hown A m c news hr h63 hbase
   unfold Oper.wp execOp
   simp only [ho,resolve,invoke,builtin,Sem.run_bind,Sem.run_pure,Result.andThen_ok,List.map_toArray,List.map_cons,List.map_nil,hs,hx,hrun]
   exact hK _ _ (h v' w' h2 h3 h5)
end
section
open Go.RowKit
def rsOf (k f:Int)(F:Nat→Prop)(N:Nat):K4.Rest:={ t:=98,pre:=[.int .i64 k,.bool false,.int .i64 8,.int .i64 f],post:=[.int .i64 0,.slice none 0 0,.string ⟨#[]⟩,.int .i64 0],F:=fun j=>F j∨N≤j,N:=N,up:=fun _ h=>.inr h }
def LexIs (w:World) (b:Nat) (F:Nat→Prop) (k:Nat):LSt→Prop
 | .out=>F b∧Own w b 98 (LZ k false).toArray
 | .dead=>F b∧Own w b 98 (LZ k true).toArray
 | .num a f p=>F b∧StA a ∧ ∃ g c:Nat,Own w b 98 (LX k false 9 f zq a (.slice (some ⟨g,0,none⟩) p.length c) ⟨#[]⟩ 0).toArray ∧
     w.ownsRow 0 5 1 (.slice (some ⟨g,0,none⟩) p.length c) p.length (byteCells p)∧F g∧g≠b
 | .word f p=>F b ∧ ∃ (t:ByteArray) (j:Nat),(t=wT∨t=wF∨t=wN)∧1≤j∧j<t.size∧p=t.data.toList.take j∧Own w b 98 (LX k false 10 f zq 0 (.slice none 0 0) t j).toArray
 | .str q f acc=>F b∧q≠.done∧K4.IsQ (rsOf k f F w.heap.size) w b q acc
def LexAny (w:World)(b k:Nat):Prop:=∃ cs:List Value,Own w b 98 cs.toArray∧cs.length=80∧cs[0]?=some (.int .i64 k)
section
variable {w w':World} {b k:Nat} {F G:Nat→Prop} {st:LSt}
theorem LX_len {k:Int}{o:Bool}{wi f:Int}{q:List Value}{na:Int}{dg:Value}{wt:ByteArray}{wa:Int}(hq:q.length=72):(LX k o wi f q na dg wt wa).length=80:=by simp[LX,hq]
theorem zq_len:zq.length=72:=by simp[zq,K4.QL]
theorem LexIs.has (h:LexIs w b F k st):F b:=by cases st<;>exact h.1
theorem LexIs.any (h:LexIs w b F k st):LexAny w b k:=by
 cases st with
 | out=>exact ⟨_,h.2,LZ_len _ _,rfl⟩
 | dead=>exact ⟨_,h.2,LZ_len _ _,rfl⟩
 | num a f p =>
   obtain ⟨_,_,g,c,ho,_⟩:=h
   exact ⟨_,ho,LX_len zq_len,rfl⟩
 | word f p =>
   obtain ⟨_,t,j,_,_,_,_,ho⟩:=h
   exact ⟨_,ho,LX_len zq_len,rfl⟩
 | str q f acc =>
   obtain ⟨_,_,hw,a,sg,lf,num,cnt,fst,⟨last,signs,loose,ps,hq,_⟩,_⟩:=h
   exact ⟨_,hq.2.2,by simp[rsOf,K4.QL,hq.1],rfl⟩
theorem LexAny.inside (h:LexAny w b k):b<w.heap.size:=by
 obtain ⟨cs,h,_⟩:=h
 exact h.inside
theorem LexIs.inside (h:LexIs w b F k st):b<w.heap.size:=h.any.inside
theorem LexAny.stay (h:LexAny w b k) (hk:w'.heap[b]?=w.heap[b]?):LexAny w' b k:=by
 obtain ⟨cs,h,r⟩:=h
 exact ⟨cs,hk.trans h,r⟩
theorem isQ_move {k f:Int} {N N':Nat} {q:QSt} {acc:List UInt8} (h:K4.IsQ (rsOf k f F N) w b q acc) (hb:w'.heap[b]?=w.heap[b]?) (hN:N'≤w'.heap.size)
   (hs:∀ j,j<w.heap.size→j≠b→F j∨N≤j→(G j∨N'≤j)∧w'.heap[j]?=w.heap[j]?):K4.IsQ (rsOf k f G N') w' b q acc:=by
 obtain ⟨hw,a,sg,lf,num,cnt,fst,⟨last,signs,loose,ps,hq,hc,r⟩,r2⟩:=h
 refine ⟨hw,a,sg,lf,num,cnt,fst,⟨last,signs,loose,ps,⟨hq.1,rfl,hb.trans hq.2.2⟩,hc.move (Rs':=rsOf k f G N') hN (fun j hj hne hF => ?_),r⟩,r2⟩
 obtain ⟨h1,h2⟩:=hs j hj hne hF
 exact ⟨hne,h1,h2⟩
theorem LexIs.stay (h:LexIs w b F k st) (ht:Touch G w w') (hn:∀ j,j<w.heap.size→F j→¬ G j):LexIs w' b F k st:=by
 have hb:w'.heap[b]?=w.heap[b]?:=ht.block b h.inside (hn b h.inside h.has)
 cases st with
 | out=>exact ⟨h.1,hb.trans h.2⟩
 | dead=>exact ⟨h.1,hb.trans h.2⟩
 | num a f p =>
   obtain ⟨h1,h2,g,c,ho,hr,hg,hne⟩:=h
   refine ⟨h1,h2,g,c,hb.trans ho,ht.row hr (fun g' e => ?_),hg,hne⟩
   obtain rfl:=ownBlock_is e
   exact hn _ (hr.lt _ rfl).2 hg
 | word f p =>
   obtain ⟨h1,t,j,h2,h3,h4,h5,ho⟩:=h
   exact ⟨h1,t,j,h2,h3,h4,h5,hb.trans ho⟩
 | str q f acc =>
   obtain ⟨h1,h2,h4⟩:=h
   exact ⟨h1,h2,isQ_move h4 hb (Nat.le_refl _) (fun j hj _ hF=>by
     have hF':F j:=hF.resolve_right (by omega)
     exact ⟨.inl hF',ht.block j hj (hn j hj hF')⟩)⟩
theorem LexIs.mono (h:LexIs w b F k st) (hs:∀ j,j<w.heap.size→F j→G j):LexIs w b G k st:=by
 have hb:=hs b h.inside h.has
 cases st with
 | out=>exact ⟨hb,h.2⟩
 | dead=>exact ⟨hb,h.2⟩
 | num a f p =>
   obtain ⟨h1,h2,g,c,ho,hr,hg,hne⟩:=h
   exact ⟨hb,h2,g,c,ho,hr,hs g (hr.lt _ rfl).2 hg,hne⟩
 | word f p=>exact ⟨hb,h.2⟩
 | str q f acc =>
   obtain ⟨h1,h2,h4⟩:=h
   exact ⟨hb,h2,isQ_move h4 rfl (Nat.le_refl _) (fun j hj _ hF=>⟨.inl (hs j hj (hF.resolve_right (by omega))),rfl⟩)⟩
theorem LX_put0 (k k':Int)(o:Bool)(wi f:Int)(q:List Value)(na:Int)(dg:Value)(wt:ByteArray)(wa:Int):(LX k o wi f q na dg wt wa).toArray.setIfInBounds 0 (.int .i64 k')=(LX k' o wi f q na dg wt wa).toArray:=by simp[LX]
theorem LexIs.bump (h:LexIs w b F k st) (hd:st≠.dead):LexIs (w.setCell ⟨b,0,none⟩ (.int .i64 ((k:Int)+1))) b F (k+1) st:=by
 have hin:=h.inside
 have ht:Turned b w (w.setCell ⟨b,0,none⟩ (.int .i64 ((k:Int)+1))):=(Turned.refl b w).put 0 _
 cases st with
 | dead=>exact absurd rfl hd
 | out =>
   refine ⟨h.1,?_⟩
   have:=h.2.put 0 (.int .i64 ((k:Int)+1))
   rwa [show (LZ k false).toArray.setIfInBounds 0 (.int .i64 ((k:Int)+1))=(LZ ((k+1:Nat):Int) false).toArray from LX_put0 ..] at this
 | num a f p =>
   obtain ⟨h1,h2,g,c,ho,hr,hg,hne⟩:=h
   have:=ho.put 0 (.int .i64 ((k:Int)+1))
   rw[LX_put0] at this
   refine ⟨h1,h2,g,c,this,(Touch.of_turned (F:=fun j=>j=b) ht rfl).row hr (fun g' e => ?_),hg,hne⟩
   obtain rfl:=ownBlock_is e
   exact hne
 | word f p =>
   obtain ⟨h1,t,j,h2,h3,h4,h5,ho⟩:=h
   have:=ho.put 0 (.int .i64 ((k:Int)+1))
   rw[LX_put0] at this
   exact ⟨h1,t,j,h2,h3,h4,h5,this⟩
 | str q f acc =>
   obtain ⟨h1,h2,hw,a,sg,lf,num,cnt,fst,⟨last,signs,loose,ps,hq,hc,r⟩,r2⟩:=h
   have:=hq.2.2.put 0 (.int .i64 ((k:Int)+1))
   have hz:(w.setCell ⟨b,0,none⟩ (.int .i64 ((k:Int)+1))).heap.size=w.heap.size:=by simp[World.setCell]
   refine ⟨h1,h2,hw,a,sg,lf,num,cnt,fst,⟨last,signs,loose,ps,⟨hq.1,rfl,?_⟩,hc.move (Rs':=rsOf (k+1:Nat) f F _) (Nat.le_refl _) (fun j hj hne hF=>⟨hne,?_,ht.2.2.2.2 j hj hne⟩),r⟩,r2⟩
   ·simpa [rsOf] using this
   ·exact hF.elim .inl fun h=>.inr (Nat.le_trans (Nat.le_of_eq hz) h)
end
def Short (k:Nat):LSt→Prop
 | .num _ _ p=>p.length≤k
 | .str q _ acc=>acc.length+pendQ q≤4*k
 | _=>True
end
section
open Go.RowKit
def TakeEnd (w:World) (b:Nat) (F:Nat→Prop) (k:Nat) (r:List Tok×Int×LSt) (e:Ending) (w':World):Prop :=
 ∃ v,e=.returned (.tuple #[v,.int .i64 r.2.1])∧TRow w' w.heap.size v r.1∧Touch F w w'∧(r.2.1=0→LexIs w' b (fun j=>F j∨w.heap.size≤j) k r.2.2)∧(r.2.1≠0→LexAny w' b k)
section
variable (w:World) (b k:Nat) (F:Nat→Prop) (c:UInt8)
theorem out_other (h:LexIs w b F k .out) (hk:kindI c.toNat=0) :
   Calls Tryz.prog 63 #[.pointer (some ⟨b,0,none⟩),.int .u8 c.toNat] w (TakeEnd w b F k ([],8,.dead)):=by
 have ha:=hid h.any
 have HK:=kind_any c.toNat w
 rw[hk] at HK
 replace HK:=hid HK
 clear h hk
 go_enter Tryz.func63,Tryz.ntmps63
 go_wp2_with (go_at_call 92;refine HK.out.mono ?_;rintro e w' ⟨rfl,rfl⟩)
 go_ret2
 exact ⟨_,rfl,TRow.nil _ _,Touch.refl _ _,(fun e=>by cases e),fun _=>ha.out⟩
theorem out_blank (h:LexIs w b F k .out) (hk:kindI c.toNat=1) :
   Calls Tryz.prog 63 #[.pointer (some ⟨b,0,none⟩),.int .u8 c.toNat] w (TakeEnd w b F k ([],0,.out)):=by
 have ha:=hid h
 have HK:=kind_any c.toNat w
 rw[hk] at HK
 replace HK:=hid HK
 clear h hk
 go_enter Tryz.func63,Tryz.ntmps63
 go_wp2_with (go_at_call 92;refine HK.out.mono ?_;rintro e w' ⟨rfl,rfl⟩)
 go_ret2
 exact ⟨_,rfl,TRow.nil _ _,Touch.refl _ _,fun _=>ha.out.mono (fun _ _ h=>.inl h),fun e=>absurd rfl e⟩
theorem out_one (h:LexIs w b F k .out) (n:Int) (hk:kindI c.toNat=n) (h2:2≤n) (h7:n≤7) (hkb:k≤1000000000) :
   Calls Tryz.prog 63 #[.pointer (some ⟨b,0,none⟩),.int .u8 c.toNat] w (TakeEnd w b F k ([⟨n,false,k,k+1,[]⟩],0,.out)):=by
 have ha:=hid h
 have hown:=h.2
 have c0:=hown.at 0
 rw[show (LZ k false).toArray[0]?=some (.int .i64 k) from rfl] at c0
 have HK:=kind_any c.toNat w
 rw[hk] at HK
 replace HK:=hid HK
 have g0:(n==0)=false:=beq_eq_false_iff_ne.2 (by omega)
 have g1:(n==1)=false:=beq_eq_false_iff_ne.2 (by omega)
 have g8:(n==8)=false:=beq_eq_false_iff_ne.2 (by omega)
 have g9:(n==9)=false:=beq_eq_false_iff_ne.2 (by omega)
 have g10:(n==10)=false:=beq_eq_false_iff_ne.2 (by omega)
 clear h hk hown
 go_enter Tryz.func63,Tryz.ntmps63
 go_wp2_with (go_at_call 92;refine HK.out.mono ?_;rintro e w' ⟨rfl,rfl⟩)
 go_region
 go_wp2
 go_ret2
 have hb:Below w.heap.size w (w.alloc (.cells #[.int .i64 n,.bool false,.int .i64 k,.int .i64 (k+1),.string ⟨#[]⟩] 54)).drew:=(below1 w _).drew
 refine ⟨_,rfl,?_,Touch.of_new hb,fun _=>(ha.out.stay (Touch.of_new (F:=fun _=>False) hb) (fun _ _ _ h=>h)).mono (fun _ _ h=>.inl h),fun e=>absurd rfl e⟩
 exact TRow.one w ⟨n,false,k,k+1,[]⟩ (Nat.le_refl _)
end
theorem LX_c0 (k:Int)(o:Bool)(wi f:Int)(q:List Value)(na:Int)(dg:Value)(wt:ByteArray)(wa:Int):(LX k o wi f q na dg wt wa).toArray[0]?=some (.int .i64 k):=by simp[LX]
theorem LZ_set (k wi f:Int):((LZ k false).toArray.setIfInBounds 2 (.int .i64 wi)).setIfInBounds 3 (.int .i64 f)=(LX k false wi f zq 0 (.slice none 0 0) ⟨#[]⟩ 0).toArray:=by simp[LZ,LX]
theorem isQ_start {w:World} {b:Nat} {k f:Int} {F:Nat→Prop} {N:Nat} (h:Own w b 98 (LX k false 8 f zq 0 (.slice none 0 0) ⟨#[]⟩ 0).toArray) (hN:N≤w.heap.size):K4.IsQ (rsOf k f F N) w b .plain []:=by
 refine K4.isQ_mk trivial (sg:=0) (lf:=0) (num:=0) (cnt:=0) (fst:=0) (a:=0) ⟨none,List.replicate 64 0,0,[],⟨by simp,rfl,h⟩,⟨rfl,hN⟩,by omega,?_,?_,rfl⟩ ⟨rfl,rfl,rfl,rfl,rfl⟩ stU_zero
 ·intro v hv;simp at hv
 ·intro p hp;simp at hp
section
variable (w:World) (b k:Nat) (F:Nat→Prop) (c:UInt8)
theorem out_mark (h:LexIs w b F k .out) (hk:kindI c.toNat=8) (hkb:k≤1000000000) :
   Calls Tryz.prog 63 #[.pointer (some ⟨b,0,none⟩),.int .u8 c.toNat] w (TakeEnd w b F k ([⟨8,true,k,k,[]⟩],0,.str .plain k [])):=by
 have hF:=h.1
 have hown:=h.2
 have hin:=hown.inside
 have c0:=hown.at 0
 rw[show (LZ k false).toArray[0]?=some (.int .i64 k) from rfl] at c0
 have c2:=hown.at 2
 rw[show (LZ k false).toArray[2]?=some (.int .i64 0) from rfl] at c2
 have c3:=hown.at 3
 rw[show (LZ k false).toArray[3]?=some (.int .i64 0) from rfl] at c3
 have f2:=hown.free 2
 have f3:=hown.free 3
 have HK:=kind_any c.toNat w
 rw[hk] at HK
 replace HK:=hid HK
 have HO:=hid hown
 clear h hk hown
 go_enter Tryz.func63,Tryz.ntmps63
 go_wp2_with (go_at_call 92;refine HK.out.mono ?_;rintro e w' ⟨rfl,rfl⟩)
 generalize hw1:World.setCell (World.setCell _ _ _) _ _=w1
 have H1:Own w1 b 98 (LX k false 8 k zq 0 (.slice none 0 0) ⟨#[]⟩ 0).toArray∧Turned b w w1:=by
   subst hw1
   refine ⟨?_,((Turned.refl b w).put 2 _).put 3 _⟩
   have:=(HO.out.put 2 (.int .i64 8)).put 3 (.int .i64 k)
   rwa [LZ_set] at this
 clear hw1 c0 c2 c3 f2 f3
 have c0:=H1.1.at 0
 rw[show (LX k false 8 k zq 0 (.slice none 0 0) ⟨#[]⟩ 0).toArray[0]?=some (.int .i64 k) from rfl] at c0
 have HH:=hid H1
 clear H1
 go_region
 go_wp2
 go_ret2
 have hz:w.heap.size≤w1.heap.size:=HH.out.2.2.2.2.1
 have hb:Below w1.heap.size w1 (w1.alloc (.cells #[.int .i64 8,.bool true,.int .i64 k,.int .i64 k,.string ⟨#[]⟩] 54)).drew:=(below1 w1 _).drew
 refine ⟨_,rfl,?_,(Touch.of_turned HH.out.2 hF).trans (Touch.of_new (F:=F) hb) (fun _ _ h=>h),fun _=>⟨.inl hF,by simp,?_⟩,fun e=>absurd rfl e⟩
 ·exact TRow.one w1 ⟨8,true,k,k,[]⟩ hz
 ·exact isQ_start (HH.out.1.stay hb HH.out.1.inside) (Nat.le_refl _)
theorem LZ_word (k:Int) (t:ByteArray):(((((LZ k false).toArray.setIfInBounds 78 (.string t)).setIfInBounds 79 (.int .i64 1)).setIfInBounds 2 (.int .i64 10)).setIfInBounds 3 (.int .i64 k))=(LX k false 10 k zq 0 (.slice none 0 0) t ((1:Nat):Int)).toArray:=by
 simp[LZ,LX,zq_len]
theorem LZ_get (k:Int) (wi f:Int) (na:Int) (dg:Value) (t:ByteArray) (j:Int):(LX k false wi f zq na dg t j).toArray[76]?=some (.int .i64 na)∧(LX k false wi f zq na dg t j).toArray[77]?=some dg∧(LX k false wi f zq na dg t j).toArray[78]?=some (.string t)∧(LX k false wi f zq na dg t j).toArray[79]?=some (.int .i64 j):=by
 refine ⟨?_,?_,?_,?_⟩<;>simp[LX,zq_len]
theorem out_word (t:ByteArray) (ht:t=wT∨t=wF∨t=wN) (hz:1<t.size) (hc:(t[0].toNat:Int)=c.toNat)
   (hB:∀ w,Tab w→Calls Tryz.prog 115 #[.int .u8 c.toNat] w fun e w'=>e=.returned (.string t)∧Below w.heap.size w w')
   (hT:Tab w) (h:LexIs w b F k .out) (hk:kindI c.toNat=10) (hkb:k≤1000000000) :
   Calls Tryz.prog 63 #[.pointer (some ⟨b,0,none⟩),.int .u8 c.toNat] w (TakeEnd w b F k ([⟨10,true,k,k,[]⟩],0,.word k [c])):=by
 have hF:=h.1
 have hown:=h.2
 have HK:=kind_any c.toNat w
 rw[hk] at HK
 replace HK:=hid HK
 have HS:=hid (fstep_first b ⟨#[]⟩ t c.toNat hz hc _ _ w hT hown (LZ_get ..).2.2.1 (LZ_get ..).2.2.2 hB)
 have hp:=hid (show [c]=t.data.toList.take 1 by
   have hl:0<t.data.toList.length:=by have:t.data.toList.length=t.size:=rfl;omega
   rw[List.take_succ_eq_append_getElem hl]
   have:t.data.toList[0]=t[0]:=rfl
   rw[this]
   have:t[0]=c:=UInt8.toNat_inj.1 (by omega)
   rw[this];rfl)
 clear h hk hown hB hc
 go_enter Tryz.func63,Tryz.ntmps63
 go_wp2_with (first
   | (go_at_call 92;refine HK.out.mono ?_;rintro e w' ⟨rfl,rfl⟩)
   | (go_at_call 90;refine HS.out.mono ?_;rintro e w1 ⟨rfl,ho1,ht1⟩
      have c0:=ho1.at 0
      have c2:=ho1.at 2
      have c3:=ho1.at 3
      have f2:=ho1.free 2
      have f3:=ho1.free 3
      rw[show (((LZ k false).toArray.setIfInBounds 78 (.string t)).setIfInBounds 79 (.int .i64 1))[0]?=some (.int .i64 k) from rfl] at c0
      rw[show (((LZ k false).toArray.setIfInBounds 78 (.string t)).setIfInBounds 79 (.int .i64 1))[2]?=some (.int .i64 0) from rfl] at c2
      rw[show (((LZ k false).toArray.setIfInBounds 78 (.string t)).setIfInBounds 79 (.int .i64 1))[3]?=some (.int .i64 0) from rfl] at c3
      have HO:=hid ho1
      have HT:=hid ht1
      clear ho1 ht1))
 generalize hw2:World.setCell (World.setCell _ _ _) _ _=w2
 have H1:Own w2 b 98 (LX k false 10 k zq 0 (.slice none 0 0) t ((1:Nat):Int)).toArray∧Turned b w w2:=by
   subst hw2
   refine ⟨?_,(HT.out.put 2 _).put 3 _⟩
   have:=(HO.out.put 2 (.int .i64 10)).put 3 (.int .i64 k)
   rwa [LZ_word] at this
 clear hw2 c0 c2 c3 f2 f3
 have c0:=H1.1.at 0
 rw[show (LX k false 10 k zq 0 (.slice none 0 0) t ((1:Nat):Int)).toArray[0]?=some (.int .i64 k) from rfl] at c0
 have HH:=hid H1
 clear H1
 go_region
 go_wp2
 go_ret2
 have hz':w.heap.size≤w2.heap.size:=HH.out.2.2.2.2.1
 have hb:Below w2.heap.size w2 (w2.alloc (.cells #[.int .i64 10,.bool true,.int .i64 k,.int .i64 k,.string ⟨#[]⟩] 54)).drew:=(below1 w2 _).drew
 refine ⟨_,rfl,?_,(Touch.of_turned HH.out.2 hF).trans (Touch.of_new (F:=F) hb) (fun _ _ h=>h),fun _=>⟨.inl hF,t,1,ht,Nat.le_refl _,hz,hp.out,HH.out.1.stay hb HH.out.1.inside⟩,fun e=>absurd rfl e⟩
 exact TRow.one w2 ⟨10,true,k,k,[]⟩ hz'
end
theorem dig_append {ops:Array Oper} {rest:List Oper} {o:Oper} {a:Act} {Q:Exit→Act→World→Prop} (w:World) (hgd:o.guard=none) (s x:Operand) (ho:o.op=.call { callee:=.builtin .append,args:=#[s,x],argTypes:=#[22,22] })
   (v:Value) (l:List UInt8) (hs:a.eval s=v) (hown:w.ownsRow 0 5 1 v l.length (byteCells l)) (B:Nat) (A:Option Addr) (m c:Nat) (news:List UInt8) (hx:a.eval x=.slice A m c) (hr:Rd w B A m (byteCells news)) (hm:0<m)
   (h63:l.length+m≤140737488355328-4096)
   (h : ∀ (g c':Nat) (w':World),w'.ownsRow 0 5 1 (.slice (some ⟨g,0,none⟩) (l++news).length c') (l++news).length (byteCells (l++news))→w.grownBy w' v.ownBlock→(v.ownBlock=some g∨g=w.heap.size) →
     wpList Tryz.prog ops Q rest (a.put o.dst (.slice (some ⟨g,0,none⟩) (l++news).length c')) w'):wpList Tryz.prog ops Q (o :: rest) a w:=by
 obtain ⟨i0,hi,hz0,hz1,hz2⟩:=info_parts byte_info
 have hmn:news.length=m:=by have:=hr.1;rwa [byteCells_length] at this
 refine wpList_append_rd w hgd s x _ ho 0 5 i0 _ 1 Tryz.underlying22 hi hz0 hz1 hz2 rfl v l.length (byteCells l) hs hown B A m c (byteCells news) hx hr (byteCells_one _) (by unfold maxLen;omega) (by omega) (Nat.zero_le _) ?_
 intro v' w' h2 hg hnil hat
 have hne:v'≠.slice none 0 0:=fun e=>by have:=(hnil.1 e).2;omega
 obtain ⟨g,c2,rfl,_⟩:=own_form h2 hne
 have e1:l.length+m=(l++news).length:=by rw[List.length_append,hmn]
 rw[e1] at h2 ⊢
 rw[← byteCells_append] at h2
 refine h g c2 w' h2 hg ?_
 rcases hat with hat|hat
 ·exact .inl hat.symm
 ·exact .inr (ownBlock_is hat).symm
theorem LZ_num (k a:Int) (dg:Value):(((((LZ k false).toArray.setIfInBounds 76 (.int .i64 a)).setIfInBounds 77 dg).setIfInBounds 2 (.int .i64 9)).setIfInBounds 3 (.int .i64 k))=(LX k false 9 k zq a dg ⟨#[]⟩ 0).toArray:=by
 simp[LZ,LX,zq_len]
theorem out_num (w:World) (b k:Nat) (F:Nat→Prop) (c:UInt8) (h:LexIs w b F k .out) (hk:kindI c.toNat=9) (hn:nxI 0 c.toNat≠0) (hkb:k≤1000000000) :
   Calls Tryz.prog 63 #[.pointer (some ⟨b,0,none⟩),.int .u8 c.toNat] w (TakeEnd w b F k ([⟨9,true,k,k,[]⟩],0,.num (nxI 0 c.toNat) k [c])):=by
 have hF:=h.1
 have hown:=h.2
 have HK:=kind_any c.toNat w
 rw[hk] at HK
 replace HK:=hid HK
 have c76:=hown.at 76
 rw[show (LZ k false).toArray[76]?=some (.int .i64 0) from (LZ_get ..).1] at c76
 have hin:=hown.inside
 have HST:=stA_next 0 c.toNat
 have HS:=fnum_goes b c.toNat 0 w c76 (hown.free 76) stA_zero hn
 generalize nxI 0 c.toNat=a at *
 replace HS:=hid ((HS.mono fun e w' h=>⟨h.1,by rw[h.2];exact hown.put 76 _,by rw[h.2];exact (Turned.refl b w).put 76 _⟩:Calls Tryz.prog 89 #[.pointer (some ⟨b,76,none⟩),.int .u8 c.toNat] w fun e w'=>e=.returned (.int .i64 0)∧Own w' b 98 ((LZ k false).toArray.setIfInBounds 76 (.int .i64 a))∧Turned b w w'))
 clear h hk hown hn c76
 go_enter Tryz.func63,Tryz.ntmps63
 go_wp2_with (first
   | (go_at_call 92;refine HK.out.mono ?_;rintro e w' ⟨rfl,rfl⟩)
   | (go_at_call 89;refine HS.out.mono ?_;rintro e w1 ⟨rfl,ho1,ht1⟩
      have c77:=ho1.at 77
      rw[show ((LZ k false).toArray.setIfInBounds 76 (.int .i64 a))[77]?=some (.slice none 0 0) by simp[LZ,LX,zq_len]] at c77
      have hrd:=Rd.of_list (l:=[.int .u8 c.toNat]) (Own.fresh w1 5 #[.int .u8 c.toNat]) rfl
      have HO:=hid ho1
      have HT:=hid ht1
      clear ho1 ht1)
   | (at_builtin;go_must (
      refine dig_append _ rfl (.tmp 39) (.tmp 41) rfl (.slice none 0 0) [] rfl ⟨rfl,.inl ⟨rfl,rfl⟩⟩ _ _ 1 1 [c] rfl hrd (by decide) (by simp) ?_
      intro g c' w2 hr2 hg2 hor
      have hb2:=((below1 w1 (.cells #[.int .u8 c.toNat] 5)).grown hg2 (by simp) (fun k hk=>by cases hk))
      have HO2:=hid (HO.out.stay hb2 HO.out.inside)
      have d77:=HO2.out.at 77
      rw[show ((LZ k false).toArray.setIfInBounds 76 (.int .i64 a))[77]?=some (.slice none 0 0) by simp[LZ,LX,zq_len]] at d77
      have f77:=HO2.out.free 77
      have c0:=HO2.out.at 0
      have c2:=HO2.out.at 2
      have c3:=HO2.out.at 3
      have f2:=HO2.out.free 2
      have f3:=HO2.out.free 3
      rw[show ((LZ k false).toArray.setIfInBounds 76 (.int .i64 a))[0]?=some (.int .i64 k) from rfl] at c0
      rw[show ((LZ k false).toArray.setIfInBounds 76 (.int .i64 a))[2]?=some (.int .i64 0) from rfl] at c2
      rw[show ((LZ k false).toArray.setIfInBounds 76 (.int .i64 a))[3]?=some (.int .i64 0) from rfl] at c3
      have HR:=hid hr2
      have HB:=hid hb2
      have HG:=hid hor
      clear hr2 hg2 hor hb2 c77 hrd)))
 generalize hw3:World.setCell (World.setCell (World.setCell _ _ _) _ _) _ _=w3
 have hz1:w.heap.size≤w1.heap.size:=HT.out.2.2.2.1
 have hgn:g=w1.heap.size+1:=by
   rcases HG.out with h|h
   ·cases h
   ·simpa using h
 have H3:Own w3 b 98 (LX k false 9 k zq a (.slice (some ⟨g,0,none⟩) ([]++[c]).length c') ⟨#[]⟩ 0).toArray∧Turned b w2 w3:=by
   subst hw3
   refine ⟨?_,(((Turned.refl b w2).put 77 _).put 2 _).put 3 _⟩
   have:=((HO2.out.put 77 (.slice (some ⟨g,0,none⟩) ([]++[c]).length c')).put 2 (.int .i64 9)).put 3 (.int .i64 k)
   rwa [LZ_num] at this
 have hr3:=(Touch.of_turned (F:=fun j=>j=b) H3.2 rfl).row HR.out (fun g' e=>by
   obtain rfl:=ownBlock_is e
   omega)
 have ht3:Touch F w w3:=((Touch.of_turned HT.out hF).trans (Touch.of_new (F:=F) HB.out) (fun _ _ h=>h)).trans (Touch.of_turned H3.2 hF) (fun _ _ h=>h)
 clear hw3 c0 c2 c3 f2 f3 d77 f77
 have c0:=H3.1.at 0
 rw[LX_c0] at c0
 have HH:=hid H3
 have HR3:=hid hr3
 clear H3 hr3
 go_region
 go_wp2
 go_ret2
 have hb:Below w3.heap.size w3 (w3.alloc (.cells #[.int .i64 9,.bool true,.int .i64 k,.int .i64 k,.string ⟨#[]⟩] 54)).drew:=(below1 w3 _).drew
 have hgl:=(HR3.out.lt g rfl).2
 refine ⟨_,rfl,?_,ht3.trans (Touch.of_new (F:=F) hb) (fun _ _ h=>h),fun _=>⟨.inl hF,HST,g,c',HH.out.1.stay hb HH.out.1.inside,?_,.inr (by omega),by omega⟩,fun e=>absurd rfl e⟩
 ·exact TRow.one w3 ⟨9,true,k,k,[]⟩ ht3.size
 ·exact (Touch.of_new (F:=fun _=>False) hb).row HR3.out (fun _ _ h=>h)
theorem kind_cases (c:UInt8):kindI c.toNat=0∨kindI c.toNat=1∨(2≤kindI c.toNat∧kindI c.toNat≤7)∨kindI c.toNat=8∨(kindI c.toNat=9∧nxI 0 c.toNat≠0)∨(kindI c.toNat=10∧(c=116∨c=102∨c=110)):=by
 have h:∀ n:Nat,n<256→kindI n=0∨kindI n=1∨(2≤kindI n∧kindI n≤7)∨kindI n=8∨(kindI n=9∧nxI 0 n≠0)∨(kindI n=10∧(n=116∨n=102∨n=110)):=by decide +kernel
 have:=h c.toNat (UInt8.toNat_lt c)
 rcases this with h|h|h|h|h|⟨h,h2⟩
 ·exact .inl h
 ·exact .inr (.inl h)
 ·exact .inr (.inr (.inl h))
 ·exact .inr (.inr (.inr (.inl h)))
 ·exact .inr (.inr (.inr (.inr (.inl h))))
 ·refine .inr (.inr (.inr (.inr (.inr ⟨h,?_⟩))))
  rcases h2 with h2|h2|h2
  ·exact .inl (UInt8.toNat_inj.1 h2)
  ·exact .inr (.inl (UInt8.toNat_inj.1 h2))
  ·exact .inr (.inr (UInt8.toNat_inj.1 h2))
theorem outside_any (w:World) (b k:Nat) (F:Nat→Prop) (c:UInt8) (h:LexIs w b F k .out) (hT:Tab w) (hkb:k≤1000000000) :
   Calls Tryz.prog 63 #[.pointer (some ⟨b,0,none⟩),.int .u8 c.toNat] w (TakeEnd w b F k (outL k c)):=by
 unfold outL
 rcases kind_cases c with hk|hk|⟨h2,h7⟩|hk|⟨hk,hn⟩|⟨hk,hc⟩
 ·rw[if_neg (by omega),if_pos hk]
  exact out_other w b k F c h hk
 ·rw[if_pos hk]
  exact out_blank w b k F c h hk
 ·rw[if_neg (by omega),if_neg (by omega),if_pos (by omega)]
  exact out_one w b k F c h _ rfl h2 h7 hkb
 ·rw[if_neg (by omega),if_neg (by omega),if_neg (by omega),if_pos hk]
  exact out_mark w b k F c h hk hkb
 ·rw[if_neg (by omega),if_neg (by omega),if_neg (by omega),if_neg (by omega),if_pos hk]
  exact out_num w b k F c h hk hn hkb
 ·rw[if_neg (by omega),if_neg (by omega),if_neg (by omega),if_neg (by omega),if_neg (by omega)]
  rcases hc with rfl|rfl|rfl
  ·exact out_word w b k F 116 wT (.inl rfl) (by decide) rfl begun_t hT h hk hkb
  ·exact out_word w b k F 102 wF (.inr (.inl rfl)) (by decide) rfl begun_f hT h hk hkb
  ·exact out_word w b k F 110 wN (.inr (.inr rfl)) (by decide) rfl begun_n hT h hk hkb
end
section
open Go.RowKit
def LexCs (w:World)(b:Nat)(k wi f:Int):Prop:=∃ cs:List Value,Own w b 98 cs.toArray∧cs.length=80∧cs[0]?=some (.int .i64 k)∧cs[2]?=some (.int .i64 wi)∧cs[3]?=some (.int .i64 f)
section
variable {w w':World} {b:Nat} {F:Nat→Prop}
theorem LexCs.stay {k wi f:Int} (h:LexCs w b k wi f) (hb:w'.heap[b]?=w.heap[b]?):LexCs w' b k wi f:=by
 obtain ⟨cs,h,r⟩:=h
 exact ⟨cs,hb.trans h,r⟩
theorem LexCs.inside {k wi f:Int} (h:LexCs w b k wi f):b<w.heap.size:=by
 obtain ⟨cs,h,_⟩:=h
 exact h.inside
theorem LexCs.c0 {k wi f:Int} (h:LexCs w b k wi f):w.cell? ⟨b,0,none⟩=some (.int .i64 k):=by
 obtain ⟨cs,h,h1,h2,_⟩:=h
 rw[h.at]
 simpa using h2
theorem LexCs.any {k:Nat} {wi f:Int} (h:LexCs w b k wi f):LexAny w b k:=by
 obtain ⟨cs,h,h1,h2,_⟩:=h
 exact ⟨cs,h,h1,h2⟩
theorem isQ_cs {k f:Int} {N:Nat} {q:QSt} {acc:List UInt8} (h:K4.IsQ (rsOf k f F N) w b q acc):LexCs w b k 8 f:=by
 obtain ⟨hw,a,sg,lf,num,cnt,fst,⟨last,signs,loose,ps,hq,_⟩,_⟩:=h
 exact ⟨_,hq.2.2,by simp[rsOf,K4.QL,hq.1],rfl,rfl,rfl⟩
theorem lx_cs {k wi f:Int} {q:List Value} {na:Int} {dg:Value} {wt:ByteArray} {wa:Int} (hq:q.length=72) (h:Own w b 98 (LX k false wi f q na dg wt wa).toArray):LexCs w b k wi f :=
 ⟨_,h,LX_len hq,rfl,rfl,rfl⟩
end
theorem leave_cs (b:Nat) (k wi f to:Int) (s:ByteArray) (w:World) (h:LexCs w b k wi f) :
   Calls Tryz.prog 37 #[.pointer (some ⟨b,0,none⟩),.int .i64 to,.string s] w fun e w'=>e=.returned (.agg #[.int .i64 wi,.bool false,.int .i64 f,.int .i64 to,.string s])∧Own w' b 98 (LZ k false).toArray∧Turned b w w':=by
 obtain ⟨cs,ho,hl,h0,h2,h3⟩:=h
 exact leave_any b k wi f to s cs w ho hl h0 h2 h3
section
variable (w:World) (b k f:Nat) (F:Nat→Prop) (q:QSt) (acc:List UInt8) (c:UInt8)
theorem str_no (h:LexIs w b F k (.str q f acc)) (hs:stepQ q c=none) :
   Calls Tryz.prog 60 #[.pointer (some ⟨b,0,none⟩),.int .u8 c.toNat] w (TakeEnd w b F k ([],faultQ q c,.dead)):=by
 obtain ⟨hF,hq,hi⟩:=h
 have hstep:=K4.step_any w b q acc c hi
 unfold K4.StepPost at hstep
 rw[hs] at hstep
 have hstep:Calls Tryz.prog 87 #[.pointer (some ⟨b,4,none⟩),.int .u8 c.toNat] w fun e w'=>e=.returned (.int .i64 (faultQ q c))∧K4.IsQ (rsOf k f F w.heap.size) w' b q acc∧Turned b w w':=hstep
 have hf:=faultQ_ne q c
 generalize faultQ q c=j at *
 have g1:(j==1)=false:=beq_eq_false_iff_ne.2 hf.1
 have HS:=hid hstep
 clear hstep hs hi
 go_enter Tryz.func60,Tryz.ntmps60
 go_wp2_with (go_at_call 87;refine HS.out.mono ?_;rintro e w1 ⟨rfl,h1,t1⟩)
 go_ret2
 exact ⟨_,rfl,TRow.nil _ _,Touch.of_turned t1 hF,fun e=>absurd e hf.2,fun _=>(isQ_cs h1).any⟩
theorem str_on (h:LexIs w b F k (.str q f acc)) (q':QSt) (x:List UInt8) (hs:stepQ q c=some (q',x)) (hd:q'≠.done) :
   Calls Tryz.prog 60 #[.pointer (some ⟨b,0,none⟩),.int .u8 c.toNat] w (TakeEnd w b F k ([],0,.str q' f (acc++x))):=by
 obtain ⟨hF,hq,hi⟩:=h
 have hstep:=K4.step_any w b q acc c hi
 unfold K4.StepPost at hstep
 rw[hs] at hstep
 have hstep:Calls Tryz.prog 87 #[.pointer (some ⟨b,4,none⟩),.int .u8 c.toNat] w fun e w'=>e=.returned (.int .i64 (K4.doneK q'))∧K4.IsQ (rsOf k f F w.heap.size) w' b q' (acc++x)∧Turned b w w':=hstep
 rw[K4.doneK_no hd] at hstep
 have HS:=hid hstep
 clear hstep hs hi
 go_enter Tryz.func60,Tryz.ntmps60
 go_wp2_with (go_at_call 87;refine HS.out.mono ?_;rintro e w1 ⟨rfl,h1,t1⟩)
 go_ret2
 refine ⟨_,rfl,TRow.nil _ _,Touch.of_turned t1 hF,fun _=>⟨.inl hF,hd,?_⟩,fun e=>absurd rfl e⟩
 exact isQ_move h1 rfl (Nat.le_refl _) (fun j hj _ hF=>⟨.inl hF,rfl⟩)
theorem str_done (h:LexIs w b F k (.str q f acc)) (x:List UInt8) (hs:stepQ q c=some (.done,x)) (hl:acc.length+pendQ q≤4*k) (hkb:k≤1000000000) :
   Calls Tryz.prog 60 #[.pointer (some ⟨b,0,none⟩),.int .u8 c.toNat] w (TakeEnd w b F k ([⟨8,false,f,k+1,acc++x⟩],0,.out)):=by
 obtain ⟨hF,hq,hi⟩:=h
 have hlen:=stepQ_len hs
 have hstep:=K4.step_any w b q acc c hi
 unfold K4.StepPost at hstep
 rw[hs] at hstep
 have HS:=hid (show Calls Tryz.prog 87 #[.pointer (some ⟨b,4,none⟩),.int .u8 c.toNat] w fun e w'=>e=.returned (.int .i64 1)∧K4.IsQ (rsOf k f F w.heap.size) w' b .done (acc++x)∧Turned b w w' from hstep)
 have hal:(acc++x).length≤1000000000000:=by simp;omega
 have HA:=hid hal
 clear hstep hs hi hlen hl
 generalize acc++x=y at *
 go_enter Tryz.func60,Tryz.ntmps60
 go_wp2_with (go_at_call 87;refine HS.out.mono ?_;rintro e w1 ⟨rfl,h1,t1⟩;have c0:=(isQ_cs h1).c0;have H1:=hid h1;have T1:=hid t1;clear h1 t1)
 have hd1:=isQ_move (w':=w1.drew) (G:=F) (N':=w.heap.size) H1.out rfl T1.out.2.2.2.1 (fun j hj _ hF=>⟨hF,rfl⟩)
 have KT:=hid (K4.textQ w1.drew b .done y hd1 HA.out)
 have hcs:=hid (isQ_cs hd1)
 clear hd1
 have k1:IntKind.i64.wrap ((k:Int)+1)=k+1:=IntWalk.i64_in _ (by omega)
 go_region_with (first
   | (go_at_call 88;refine KT.out.mono ?_;rintro e w2 ⟨rfl,hb2⟩;have hcs2:=hcs.out.stay (hb2.block b hcs.out.inside);have d0:=hcs2.c0;have HB:=hid hb2;clear hb2)
   | (go_at_call 37;refine (leave_cs _ _ _ _ _ _ _ hcs2).mono ?_;rintro e w3 ⟨rfl,h3,t3⟩;have H3:=hid h3;have T3:=hid t3;clear h3 t3))
 all_goals
   clear k1
   go_wp2
   go_ret2
   have hb3:Below w3.heap.size w3 (w3.alloc (.cells #[.int .i64 8,.bool false,.int .i64 f,.int .i64 (k+1),.string ⟨y.toArray⟩] 54)):=below1 w3 _
   have ht:Touch F w w3:=(((Touch.of_turned T1.out hF).drewN 1).trans (Touch.of_new (F:=F) HB.out) (fun _ _ h=>h)).trans (Touch.of_turned T3.out hF) (fun _ _ h=>h)
   refine ⟨_,rfl,?_,ht.trans (Touch.of_new (F:=F) hb3) (fun _ _ h=>h),fun _=>⟨.inl hF,H3.out.stay hb3 H3.out.inside⟩,fun e=>absurd rfl e⟩
   exact TRow.one w3 ⟨8,false,f,k+1,y⟩ ht.size
end
theorem inString_any (w:World) (b k f:Nat) (F:Nat→Prop) (q:QSt) (acc:List UInt8) (c:UInt8) (h:LexIs w b F k (.str q f acc)) (hl:acc.length+pendQ q≤4*k) (hkb:k≤1000000000) :
   Calls Tryz.prog 60 #[.pointer (some ⟨b,0,none⟩),.int .u8 c.toNat] w (TakeEnd w b F k (strL q f acc k c (stepQ q c))):=by
 cases hs:stepQ q c with
 | none=>exact str_no w b k f F q acc c h hs
 | some p =>
   obtain ⟨q',x⟩:=p
   by_cases hd:q'=.done
   ·subst hd
    exact str_done w b k f F q acc c h x hs hl hkb
   ·have e:strL q f acc k c (some (q',x))=([],0,.str q' f (acc++x)):=by cases q'<;>first|rfl|exact absurd rfl hd
    rw[e]
    exact str_on w b k f F q acc c h q' x hs hd
theorem LX_set (k:Int)(f:Int)(t:ByteArray)(j j':Int):((LX k false 10 f zq 0 (.slice none 0 0) t j).toArray.setIfInBounds 78 (.string t)).setIfInBounds 79 (.int .i64 j')=(LX k false 10 f zq 0 (.slice none 0 0) t j').toArray:=by simp[LX,zq_len]
section
variable (w:World) (b k f:Nat) (F:Nat→Prop) (c:UInt8) (t:ByteArray) (j:Nat)
theorem word_no (h1:1≤j) (hj:j<t.size) (ho:Own w b 98 (LX k false 10 f zq 0 (.slice none 0 0) t j).toArray) (hc:t[j]≠c) :
   Calls Tryz.prog 62 #[.pointer (some ⟨b,0,none⟩),.int .u8 c.toNat] w (TakeEnd w b F k ([],6,.dead)):=by
 have c78:=ho.at 78
 have c79:=ho.at 79
 rw[(LZ_get ..).2.2.1] at c78
 rw[(LZ_get ..).2.2.2] at c79
 have HS:=hid (fstep_no b j t c.toNat w c78 c79 h1 hj (fun e=>hc (UInt8.toNat_inj.1 (by omega))))
 have HC:=hid (lx_cs zq_len ho).any
 clear h1 hc ho c78 c79
 go_enter Tryz.func62,Tryz.ntmps62
 go_wp2_with (go_at_call 90;refine HS.out.mono ?_;rintro e w1 ⟨rfl,rfl⟩)
 go_ret2
 exact ⟨_,rfl,TRow.nil _ _,Touch.refl _ _,(fun e=>by cases e),fun _=>HC.out⟩
theorem word_on (hF:F b) (ht:t=wT∨t=wF∨t=wN) (h1:1≤j) (hj:j<t.size) (ho:Own w b 98 (LX k false 10 f zq 0 (.slice none 0 0) t j).toArray) (hc:t[j]=c) (hd:j+1<t.size) :
   Calls Tryz.prog 62 #[.pointer (some ⟨b,0,none⟩),.int .u8 c.toNat] w (TakeEnd w b F k ([],0,.word f (t.data.toList.take j++[c]))):=by
 have c78:=ho.at 78
 have c79:=ho.at 79
 rw[(LZ_get ..).2.2.1] at c78
 rw[(LZ_get ..).2.2.2] at c79
 have hcI:(t[j].toNat:Int)=c.toNat:=by rw[hc]
 have HS:=hid (fstep_goes b j t c.toNat w c78 c79 (ho.free 78) (ho.free 79) (word_sizes ht).2 h1 hd hcI)
 have HO:=hid ho
 have hp:=hid (show t.data.toList.take j++[c]=t.data.toList.take (j+1) by
   have hl:j<t.data.toList.length:=hj
   rw[List.take_succ_eq_append_getElem hl,← hc];rfl)
 clear ho hc hcI c78 c79
 go_enter Tryz.func62,Tryz.ntmps62
 go_wp2_with (go_at_call 90;refine HS.out.mono ?_;rintro e w1 ⟨rfl,rfl⟩)
 go_ret2
 have h:=(HO.out.put 78 (.string t)).put 79 (.int .i64 ((j:Int)+1))
 rw[LX_set] at h
 exact ⟨_,rfl,TRow.nil _ _,Touch.of_turned (((Turned.refl b w).put 78 _).put 79 _) hF,fun _=>⟨.inl hF,t,j+1,ht,by omega,hd,hp.out,h⟩,fun e=>absurd rfl e⟩
theorem word_done (hF:F b) (ht:t=wT∨t=wF∨t=wN) (h1:1≤j) (hj:j<t.size) (ho:Own w b 98 (LX k false 10 f zq 0 (.slice none 0 0) t j).toArray) (hc:t[j]=c) (hd:j+1=t.size) (hkb:k≤1000000000) :
   Calls Tryz.prog 62 #[.pointer (some ⟨b,0,none⟩),.int .u8 c.toNat] w (TakeEnd w b F k ([⟨10,false,f,k+1,t.data.toList.take j++[c]⟩],0,.out)):=by
 have c78:=ho.at 78
 have c79:=ho.at 79
 rw[(LZ_get ..).2.2.1] at c78
 rw[(LZ_get ..).2.2.2] at c79
 have hcI:(t[j].toNat:Int)=c.toNat:=by rw[hc]
 have hS:=fstep_done b j t c.toNat w c78 c79 (ho.free 78) (ho.free 79) (word_sizes ht).2 h1 hj (by omega) hcI
 have hO:Own ((w.setCell ⟨b,78,none⟩ (.string t)).setCell ⟨b,79,none⟩ (.int .i64 ((j:Int)+1))) b 98 (LX k false 10 f zq 0 (.slice none 0 0) t (((j+1:Nat):Int))).toArray:=by
   have h:=(ho.put 78 (.string t)).put 79 (.int .i64 ((j:Int)+1))
   rwa [LX_set] at h
 have hT:Turned b w ((w.setCell ⟨b,78,none⟩ (.string t)).setCell ⟨b,79,none⟩ (.int .i64 ((j:Int)+1))):=((Turned.refl b w).put 78 _).put 79 _
 replace hS:=hid (hS.mono fun e w' h=>⟨h.1,by rw[h.2];exact hO,by rw[h.2];exact hT⟩:Calls Tryz.prog 90 #[.pointer (some ⟨b,78,none⟩),.int .u8 c.toNat] w fun e w'=>e=.returned (.int .i64 1)∧Own w' b 98 (LX k false 10 f zq 0 (.slice none 0 0) t (((j+1:Nat):Int))).toArray∧Turned b w w')
 have hp:t.extract 0 (j+1)=⟨(t.data.toList.take j++[c]).toArray⟩:=ba_ext (by
   rw[head_list,List.take_succ_eq_append_getElem (show j<t.data.toList.length from hj),← hc];rfl)
 have hd':j+1≤t.size:=by omega
 generalize t.data.toList.take j++[c]=y at *
 have HP:=hid hp
 clear ho hc hcI c78 c79 hO hT hp h1 hd ht
 go_enter Tryz.func62,Tryz.ntmps62
 go_wp2_with (go_at_call 90;refine hS.out.mono ?_;rintro e w1 ⟨rfl,h1,t1⟩;have c0:=(lx_cs zq_len h1).c0;have H1:=hid h1;have T1:=hid t1;clear h1 t1)
 have e78:=H1.out.at 78
 have e79:=H1.out.at 79
 rw[(LZ_get ..).2.2.1] at e78
 rw[(LZ_get ..).2.2.2] at e79
 have KT:=fword b (j+1) t w1.drew e78 e79 hd'
 rw[HP.out] at KT
 replace KT:=hid (KT.mono fun e w' h=>⟨h.1,by obtain ⟨q,rfl⟩:=h.2;exact below_drewN (Below.refl _ _) q⟩:Calls Tryz.prog 91 #[.pointer (some ⟨b,78,none⟩)] w1.drew fun e w'=>e=.returned (.string ⟨y.toArray⟩)∧Below w1.drew.heap.size w1.drew w')
 have hcs:=hid (lx_cs (w:=w1.drew) zq_len H1.out)
 clear e78 e79
 have k1:IntKind.i64.wrap ((k:Int)+1)=k+1:=IntWalk.i64_in _ (by omega)
 go_region_with (first
   | (go_at_call 91;refine KT.out.mono ?_;rintro e w2 ⟨rfl,hb2⟩;have hcs2:=hcs.out.stay (hb2.block b hcs.out.inside);have d0:=hcs2.c0;have HB:=hid hb2;clear hb2)
   | (go_at_call 37;refine (leave_cs _ _ _ _ _ _ _ hcs2).mono ?_;rintro e w3 ⟨rfl,h3,t3⟩;have H3:=hid h3;have T3:=hid t3;clear h3 t3))
 all_goals
   clear k1
   go_wp2
   go_ret2
   have hb3:Below w3.heap.size w3 (w3.alloc (.cells #[.int .i64 10,.bool false,.int .i64 f,.int .i64 (k+1),.string ⟨y.toArray⟩] 54)):=below1 w3 _
   have ht:Touch F w w3:=(((Touch.of_turned T1.out hF).drewN 1).trans (Touch.of_new (F:=F) HB.out) (fun _ _ h=>h)).trans (Touch.of_turned T3.out hF) (fun _ _ h=>h)
   refine ⟨_,rfl,?_,ht.trans (Touch.of_new (F:=F) hb3) (fun _ _ h=>h),fun _=>⟨.inl hF,H3.out.stay hb3 H3.out.inside⟩,fun e=>absurd rfl e⟩
   exact TRow.one w3 ⟨10,false,f,k+1,y⟩ ht.size
end
theorem inWord_any (w:World) (b k f:Nat) (F:Nat→Prop) (p:List UInt8) (c:UInt8) (h:LexIs w b F k (.word f p)) (hkb:k≤1000000000) :
   Calls Tryz.prog 62 #[.pointer (some ⟨b,0,none⟩),.int .u8 c.toNat] w (TakeEnd w b F k (stepL (.word f p) k c)):=by
 obtain ⟨hF,t,j,ht,h1,hj,rfl,ho⟩:=h
 show Calls _ _ _ _ (TakeEnd w b F k (if refL (t.data.toList.take j++[c])=2 then ([],6,.dead) else if refL (t.data.toList.take j++[c])=1 then ([⟨10,false,f,k+1,t.data.toList.take j++[c]⟩],0,.out) else ([],0,.word f (t.data.toList.take j++[c]))))
 rw[ref_in t ht j h1 (by omega) c,dif_pos hj]
 by_cases hc:t[j]=c
 ·rw [if_pos hc]
  by_cases hd:j+1=t.size
  ·rw[if_pos hd,if_neg (by decide),if_pos rfl]
   exact word_done w b k f F c t j hF ht h1 hj ho hc hd hkb
  ·rw[if_neg hd,if_neg (by decide),if_neg (by decide)]
   exact word_on w b k f F c t j hF ht h1 hj ho hc (by omega)
 ·rw[if_neg hc,if_pos rfl]
  exact word_no w b k f F c t j h1 hj ho hc
end
end Go.Proofs.YtbpilcklglhloaaGreatDoor
