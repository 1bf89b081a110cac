/- Lemmas. -/
import Derived.Test.YtnokhgfifbkflaaGreatProg
import Derived.Test.YtnokhgfifbkflaaGreatJ36
set_option maxRecDepth 100000
set_option maxHeartbeats 8000000
set_option linter.unusedVariables false
set_option linter.unusedSimpArgs false
namespace Go.Proofs.YtnokhgfifbkflaaGreat
open Go.Lib (hid)
section
open Go.RowKit
theorem results_cell_tmp16 {P:Program} {fn:Func} {t p:Tmp} {ty:TypeId} (h:fn.results = #[.cell p ty,.tmp t]) (tmps:Array Value) (w:World) (g:Nat) (T:TypeId) (cs:Array Value) (fr:Nat×Nat) (d:TypeDesc)
   (hp:tmps.getD p undef=.pointer (some ⟨g,0,none⟩)) (hg:w.heap[g]?=some (.cells cs T fr))
   (hu:P.underlying ty=some d) (hd:(match d with | .struct _ | .array _ _=>true|_=>false)=true) (hi:(P.info? ty).map (·.size)=some cs.size) :
   (results fn tmps).run P w=.ok (.tuple #[.agg cs,tmps.getD t undef]) w:=by
 have hp':tmps[p]?.getD undef=.pointer (some ⟨g,0,none⟩):=by simpa using hp
 simp[results,h,hp',asAddr,run_loadVar_row w g T ty cs fr d hg hu hd hi,Result.andThen]
theorem conv16_any {w:World} {B n c:Nat} {A:Option Addr} {xs:List Int} (h:Rd w B A n (xs.map (Value.int .u8))) :
   (convert 22 9 (.slice A n c)).run Tryz.prog w=.ok (.string (strOfNums xs)) w:=by
 have hl:xs.length=n:=by simpa using h.1
 cases A with
 | none =>
   have hn:n=0:=by
     by_cases hn:0<n
     ·obtain ⟨ad,e,_⟩:=h.2 hn
      cases e
     ·omega
   subst hn
   obtain rfl:xs=[]:=List.eq_nil_of_length_eq_zero hl
   exact run_convert_bytes_nil _ _ _ Tryz.underlying22 Tryz.underlying5 _ _ _ Tryz.underlying9
 | some ad =>
   have hc:∀ j u,(xs.map (Value.int .u8))[j]?=some u→w.cell? (ad.add j)=some u:=by
     intro j u hu
     have hm:0<n:=by
       have:=(List.getElem?_eq_some_iff.1 hu).1
       simp at this
       omega
     obtain ⟨ad',e,_,h'⟩:=h.2 hm
     injection e with e
     subst e
     exact h' j u hu
   have hload:=run_loadCells_list (P:=Tryz.prog) w ad (xs.map (Value.int .u8)) hc
   have hload':(loadCells ad n).run Tryz.prog w=.ok (xs.map (Value.int .u8)).toArray w:=by simpa [hl] using hload
   rw[run_convert_bytes_string w _ _ _ _ _ _ Tryz.underlying22 Tryz.underlying5 Tryz.underlying9,run_bytesToString w _ _ _ xs hload',foldl_push_bytes]
   simp[strOfNums,ByteArray.empty,ByteArray.emptyWithCapacity]
   rfl
theorem conv_bytes16 {w:World} {B:Nat} {A:Option Addr} {n c:Nat} {l:List UInt8} (h:Rd w B A n (byteCells l)):(convert 22 9 (.slice A n c)).run Tryz.prog w=.ok (.string ⟨l.toArray⟩) w:=by
 rw[byteCells_nums] at h
 rw[conv16_any h,strOf_nums]
theorem GivEnd.no {X:Tree→Prop} {q:List Sgm} {W w':World} (hb:Below W.heap.size W w'):GivEnd X q W (.returned (.tuple #[.agg #[.int .i64 0,.int .i64 0,.int .i64 0,.string ⟨#[]⟩,.slice none 0 0,.slice none 0 0],.bool false])) w' :=
 ⟨0,0,0,[],none,0,0,none,0,0,false,rfl,(fun h=>by cases h),hb⟩
theorem val_size16:(Tryz.prog.info? 29).map (·.size)=some 6:=by kernel_rfl
def put6G (w:World) (g:Nat) (a0 a1 a2 a3 a4 a5:Value):World :=
 (((((w.setCell ⟨g,0,none⟩ a0).setCell ⟨g,1,none⟩ a1).setCell ⟨g,2,none⟩ a2).setCell ⟨g,3,none⟩ a3).setCell ⟨g,4,none⟩ a4).setCell ⟨g,5,none⟩ a5
theorem sixG_own {w:World} {g:Nat} {T:TypeId} {b0 b1 b2 b3 b4 b5:Value} (h:Own w g T #[b0,b1,b2,b3,b4,b5]) (a0 a1 a2 a3 a4 a5:Value):Own (put6G w g a0 a1 a2 a3 a4 a5) g T #[a0,a1,a2,a3,a4,a5]:=by
 have:=(((((h.put 0 a0).put 1 a1).put 2 a2).put 3 a3).put 4 a4).put 5 a5
 unfold put6G
 simpa using this
theorem sixG_below {W w:World} {g:Nat} (h:Below W.heap.size W w) (hg:W.heap.size≤g) (a0 a1 a2 a3 a4 a5:Value):Below W.heap.size W (put6G w g a0 a1 a2 a3 a4 a5):=by
 unfold put6G
 exact (((((h.setCell (p:=⟨g,0,none⟩) hg _).setCell (p:=⟨g,1,none⟩) hg _).setCell (p:=⟨g,2,none⟩) hg _).setCell (p:=⟨g,3,none⟩) hg _).setCell (p:=⟨g,4,none⟩) hg _).setCell (p:=⟨g,5,none⟩) hg _
theorem sixG_high {w:World} {g b:Nat} (h:b≠g) (a0 a1 a2 a3 a4 a5:Value):(put6G w g a0 a1 a2 a3 a4 a5).heap[b]?=w.heap[b]?:=by
 have e:∀ (u:World) (i:Nat) (v:Value),(u.setCell ⟨g,i,none⟩ v).heap[b]?=u.heap[b]?:=fun u i v=>Below.heap_setCell u _ v b h
 unfold put6G
 rw[e,e,e,e,e,e]
def SixF (w:World)(g:Nat):Prop:=Own w g 29 #[.int .i64 0,.int .i64 0,.int .i64 0,.string ⟨#[]⟩,.slice none 0 0,.slice none 0 0]
theorem SixF.facts {w:World} {g:Nat} (h:SixF w g):w.cell? ⟨g,0,none⟩=some (.int .i64 0)∧w.cell? ⟨g,1,none⟩=some (.int .i64 0)∧w.cell? ⟨g,2,none⟩=some (.int .i64 0)∧w.cell? ⟨g,3,none⟩=some (.string ⟨#[]⟩)∧w.cell? ⟨g,4,none⟩=some (.slice none 0 0)∧w.cell? ⟨g,5,none⟩=some (.slice none 0 0) :=
 ⟨h.at 0,h.at 1,h.at 2,h.at 3,h.at 4,h.at 5⟩
theorem giv_zero {X:Tree→Prop} {q:List Sgm} {W w:World} (h:SixF w W.heap.size) (hb:Below W.heap.size W w) :
   Own (put6G w W.heap.size (.int .i64 0) (.int .i64 0) (.int .i64 0) (.string ⟨#[]⟩) (.slice none 0 0) (.slice none 0 0)) W.heap.size 29 #[.int .i64 0,.int .i64 0,.int .i64 0,.string ⟨#[]⟩,.slice none 0 0,.slice none 0 0]∧Below W.heap.size W (put6G w W.heap.size (.int .i64 0) (.int .i64 0) (.int .i64 0) (.string ⟨#[]⟩) (.slice none 0 0) (.slice none 0 0)) :=
 ⟨sixG_own h _ _ _ _ _ _,sixG_below hb (Nat.le_refl _) _ _ _ _ _ _⟩
theorem given_big (X:Tree→Prop) (q:List Sgm) (A B:Option Addr) (n c bl bc:Nat) (W:World) (hl:400<bl) (hm:bl≤maxLen) :
   Calls Tryz.prog 7 #[.slice B bl bc,.slice A n c] W (GivEnd X q W):=by
 unfold maxLen at hm
 go_enter Tryz.func7,Tryz.ntmps7
 go_wp2
 refine bodyPost_ret (results_cell_tmp16 rfl _ _ W.heap.size _ _ (0,0) _ rfl (Own.fresh W 29 #[.int .i64 0,.int .i64 0,.int .i64 0,.string ⟨#[]⟩,.slice none 0 0,.slice none 0 0]) Tryz.underlying29 rfl val_size16) rfl ?_
 exact GivEnd.no (below1 W _)
theorem given_wide (X:Tree→Prop) (q:List Sgm) (A B:Option Addr) (n c bl bc:Nat) (W:World) (hl:bl≤400) (hn:8<n) (hm:n≤maxLen) :
   Calls Tryz.prog 7 #[.slice B bl bc,.slice A n c] W (GivEnd X q W):=by
 unfold maxLen at hm
 go_enter Tryz.func7,Tryz.ntmps7
 go_wp2
 refine bodyPost_ret (results_cell_tmp16 rfl _ _ W.heap.size _ _ (0,0) _ rfl (Own.fresh W 29 #[.int .i64 0,.int .i64 0,.int .i64 0,.string ⟨#[]⟩,.slice none 0 0,.slice none 0 0]) Tryz.underlying29 rfl val_size16) rfl ?_
 exact GivEnd.no (below1 W _)
theorem given_wrong (X:Tree→Prop) (q:List Sgm) (A B:Option Addr) (n c bl bc:Nat) (W:World) (hl:bl≤400) (hn:n≤8) (hq:QRd W A n q) (hs:BgQ q) (hr:rightQ q=false) :
   Calls Tryz.prog 7 #[.slice B bl bc,.slice A n c] W (GivEnd X q W):=by
 have KR:=hid (fun w (hb:Below W.heap.size W w)=>show Calls Tryz.prog 19 #[.slice A n c] w (fun e w'=>e=.returned (.bool false)∧Below w.heap.size w w') from by have:=right15_big q A n c w (hq.stay hb) hs;rw[hr] at this;exact this)
 have hlI:¬ (bl:Int)>400:=by omega
 have hnI:¬ (n:Int)>8:=by omega
 clear hq hs hr
 go_enter Tryz.func7,Tryz.ntmps7
 go_upto_region 2 with (go_at_call 19;refine (KR.out _ (below1 W _)).mono ?_;rintro e w1 ⟨rfl,hb1⟩;have S6:SixF w1 W.heap.size:=(Own.fresh W 29 #[.int .i64 0,.int .i64 0,.int .i64 0,.string ⟨#[]⟩,.slice none 0 0,.slice none 0 0]).stay hb1 (by simp);have hB:=(below1 W (.cells #[.int .i64 0,.int .i64 0,.int .i64 0,.string ⟨#[]⟩,.slice none 0 0,.slice none 0 0] 29)).trans (hb1.mono (below1 W _).size);clear hb1)
 clear KR
 obtain ⟨y0,y1,y2,y3,y4,y5⟩:=S6.facts
 have f0:=Own.free S6 0
 have f1:=Own.free S6 1
 have f2:=Own.free S6 2
 have f3:=Own.free S6 3
 have f4:=Own.free S6 4
 have f5:=Own.free S6 5
 have HG:=hid (giv_zero (X:=X) (q:=q) S6 hB)
 clear S6 hB
 unfold put6G at HG
 go_wp2
 refine bodyPost_ret (results_cell_tmp16 rfl _ _ W.heap.size _ _ (0,0) _ rfl HG.out.1 Tryz.underlying29 rfl val_size16) rfl ?_
 exact GivEnd.no HG.out.2
end
section
open Go.RowKit
def RelGv (W:World)(q:List Sgm)(i:Value)(wr:World):Prop:=∃ k:Nat,k≤q.length∧i=.int .i64 k∧(∀ g∈q.take k,g.sels.length≤8)∧Below W.heap.size W wr∧SixF wr W.heap.size
structure GvX (W w:World) (p:Nat) (x:V6) (pv:Tree) (kk:Int) (pp:Nat):Prop where
 six:SixF w W.heap.size
 bel:Below W.heap.size W w
 kept:VKept (W.heap.size+1) p w pv x
 low:W.heap.size+1≤p
 val:Own w p 29 #[.int .i64 x.kd,.int .i64 x.fr,.int .i64 x.to,.string ⟨x.tx.toArray⟩,.slice x.A x.n x.c,.slice x.B x.m x.d]
 verd:Own w (p+1) 55 #[.int .i64 kk,.int .i64 pp]
theorem GvX.done {W w:World} {p:Nat} {x:V6} {pv:Tree} {kk:Int} {pp:Nat} (h:GvX W w p x pv kk pp) :
   Own (put6G w W.heap.size (.int .i64 x.kd) (.int .i64 x.fr) (.int .i64 x.to) (.string ⟨x.tx.toArray⟩) (.slice x.A x.n x.c) (.slice x.B x.m x.d)).drew W.heap.size 29 #[.int .i64 x.kd,.int .i64 x.fr,.int .i64 x.to,.string ⟨x.tx.toArray⟩,.slice x.A x.n x.c,.slice x.B x.m x.d]∧VIs (put6G w W.heap.size (.int .i64 x.kd) (.int .i64 x.fr) (.int .i64 x.to) (.string ⟨x.tx.toArray⟩) (.slice x.A x.n x.c) (.slice x.B x.m x.d)).drew pv x∧Below W.heap.size W (put6G w W.heap.size (.int .i64 x.kd) (.int .i64 x.fr) (.int .i64 x.to) (.string ⟨x.tx.toArray⟩) (.slice x.A x.n x.c) (.slice x.B x.m x.d)).drew:=by
 have p1:Own (put6G w W.heap.size (.int .i64 x.kd) (.int .i64 x.fr) (.int .i64 x.to) (.string ⟨x.tx.toArray⟩) (.slice x.A x.n x.c) (.slice x.B x.m x.d)) W.heap.size 29 #[.int .i64 x.kd,.int .i64 x.fr,.int .i64 x.to,.string ⟨x.tx.toArray⟩,.slice x.A x.n x.c,.slice x.B x.m x.d]:=sixG_own h.six _ _ _ _ _ _
 have p2:Below W.heap.size W (put6G w W.heap.size (.int .i64 x.kd) (.int .i64 x.fr) (.int .i64 x.to) (.string ⟨x.tx.toArray⟩) (.slice x.A x.n x.c) (.slice x.B x.m x.d)):=sixG_below h.bel (Nat.le_refl _) _ _ _ _ _ _
 have hh:∀ b,b≠W.heap.size→(put6G w W.heap.size (.int .i64 x.kd) (.int .i64 x.fr) (.int .i64 x.to) (.string ⟨x.tx.toArray⟩) (.slice x.A x.n x.c) (.slice x.B x.m x.d)).heap[b]?=w.heap[b]?:=fun b h1=>sixG_high h1 _ _ _ _ _ _
 generalize put6G w W.heap.size (.int .i64 x.kd) (.int .i64 x.fr) (.int .i64 x.to) (.string ⟨x.tx.toArray⟩) (.slice x.A x.n x.c) (.slice x.B x.m x.d)=wF at p1 p2 hh ⊢
 exact ⟨p1,h.kept _ (fun b h1 h2=>hh b (by omega)),p2.drew⟩
theorem two_news (w:World) (a b:Array Value) (S T:TypeId):Own ((w.alloc (.cells a S)).alloc (.cells b T)) w.heap.size S a∧Own ((w.alloc (.cells a S)).alloc (.cells b T)) (w.heap.size+1) T b∧Below w.heap.size w ((w.alloc (.cells a S)).alloc (.cells b T)):=by
 have h1:=(Own.fresh w S a).over (.cells b T)
 have h2:=Own.fresh (w.alloc (.cells a S)) T b
 rw[show (w.alloc (.cells a S)).heap.size=w.heap.size+1 by simp] at h2
 exact ⟨h1,h2,(below1 w _).alloc (by simp) _⟩
set_option maxHeartbeats 16000000 in
theorem given_right (X:Tree→Prop) (q:List Sgm) (A B:Option Addr) (n c bl bc:Nat) (l:List UInt8) (W:World) (hx:Rd W W.heap.size B bl (byteCells l)) (hl:bl≤400) (hn:n≤8) (hq:QRd W A n q) (hs:BgQ q) (hr:rightQ q=true)
   (pv:Tree) (kk:Int) (pp:Nat) (KP:∀ w,Calls Tryz.prog 18 #[.string ⟨l.toArray⟩,.int .i64 40] w fun e w' => ∃ x:V6,e=.returned (.tuple #[.agg #[.int .i64 x.kd,.int .i64 x.fr,.int .i64 x.to,.string ⟨x.tx.toArray⟩,.slice x.A x.n x.c,.slice x.B x.m x.d],.agg #[.int .i64 kk,.int .i64 pp]])∧VKept w.heap.size w'.heap.size w' pv x∧Below w.heap.size w w')
   (hok:(∀ g∈q,g.sels.length≤8)→kk=1→NamT pv∧cnT pv≤1000∧OkQ q∧X pv) :
   Calls Tryz.prog 7 #[.slice B bl bc,.slice A n c] W (GivEnd X q W):=by
 have hql:q.length=n:=hq.1
 have KR:=hid (fun w (hb:Below W.heap.size W w)=>show Calls Tryz.prog 19 #[.slice A n c] w (fun e w'=>e=.returned (.bool true)∧Below w.heap.size w w') from by have:=right15_big q A n c w (hq.stay hb) hs;rw[hr] at this;exact this)
 have HX:=hid hx
 have HQ:=hid hq
 have HP:=hid KP
 have HOK:=hid hok
 have hlI:¬ (bl:Int)>400:=by omega
 have hnI:¬ (n:Int)>8:=by omega
 clear hq hs hr hx KP hok
 go_enter Tryz.func7,Tryz.ntmps7
 go_wp2_with (go_at_call 19;refine (KR.out _ (below1 W _)).mono ?_;rintro e w1 ⟨rfl,hb1⟩;have HS6:=hid (show SixF w1 W.heap.size from (Own.fresh W 29 #[.int .i64 0,.int .i64 0,.int .i64 0,.string ⟨#[]⟩,.slice none 0 0,.slice none 0 0]).stay hb1 (by simp));have HB:=hid ((below1 W (.cells #[.int .i64 0,.int .i64 0,.int .i64 0,.string ⟨#[]⟩,.slice none 0 0,.slice none 0 0] 29)).trans (hb1.mono (below1 W _).size));clear hb1)
 clear KR
 go_loopw [26] (fun i wr=>RelGv W q i wr) (fun i _=>q.length-(intOf i).toNat)
 case atStart=>exact ⟨0,Nat.zero_le _,rfl,(fun g h=>by rw[List.take_zero] at h;cases h),HB.out,HS6.out⟩
 case round =>
   clear HS6 HB
   obtain ⟨k,hk,rfl,hin,hb,h6⟩:=hrel
   have hk9:(k:Int)≤8:=by omega
   by_cases hlt:k<q.length
   ·have q2:(k:Int)<n:=by omega
    have hX:=HQ.out.stay hb
    obtain ⟨a,rfl,ha,hc⟩:=hX.2 (by omega)
    obtain ⟨B',m',cc,s0,s1,sr⟩:=hc k q[k] (List.getElem?_eq_getElem hlt)
    have hm':q[k].sels.length=m':=sr.1
    have htk:=List.take_succ_eq_append_getElem hlt
    clear hc hX sr
    generalize q[k]=sg at *
    obtain ⟨dp,ys⟩:=sg
    replace hm':ys.length=m':=hm'
    by_cases h8:m'≤8
    ·have q3:¬ (m':Int)>8:=by omega
     have HN:=hid (show RelGv W q (.int .i64 ((k+1:Nat):Int)) (wr.alloc (.cells #[.bool dp,.slice B' m' cc] 40)) from ⟨k+1,hlt,rfl,(fun g h=>by
       rw[htk] at h
       rcases List.mem_append.1 h with h|h
       ·exact hin g h
       ·rw[List.mem_singleton.1 h];show ys.length≤8;omega),hb.alloc hb.size _,Own.over h6 _⟩)
     clear hin hb h6 htk
     go_wp2
     go_roundw
     case rel=>exact HN.out
     case measure=>simp[intOf]<;>omega
    ·have q3:(m':Int)>8:=by omega
     have S6:SixF (wr.alloc (.cells #[.bool dp,.slice B' m' cc] 40)) W.heap.size:=Own.over h6 _
     have hB:=hb.alloc hb.size (.cells #[.bool dp,.slice B' m' cc] 40)
     clear hin hb h6 htk
     go_upto_region 7 with fail
     generalize (wr.alloc (.cells #[.bool dp,.slice B' m' cc] 40))=w1 at S6 hB ⊢
     obtain ⟨y0,y1,y2,y3,y4,y5⟩:=S6.facts
     have f0:=Own.free S6 0
     have f1:=Own.free S6 1
     have f2:=Own.free S6 2
     have f3:=Own.free S6 3
     have f4:=Own.free S6 4
     have f5:=Own.free S6 5
     have HG:=hid (giv_zero (X:=X) (q:=q) S6 hB)
     clear S6 hB
     unfold put6G at HG
     go_wp2
     refine bodyPost_ret (results_cell_tmp16 rfl _ _ W.heap.size _ _ (0,0) _ rfl HG.out.1 Tryz.underlying29 rfl val_size16) rfl ?_
     exact GivEnd.no HG.out.2
   ·have q2:¬ (k:Int)<n:=by omega
    have HIN:=hid (show ∀ g∈q,g.sels.length≤8 by rw[List.take_of_length_le (by omega)] at hin;exact hin)
    have cv:=conv_bytes16 (c:=bc) (HX.out.stay hb)
    have HB:=hid hb
    have H6:=hid h6
    clear hin hb h6
    go_upto_region 10 with (
      go_at_call 18
      go_must (
        refine (HP.out _).mono ?_
        rintro e w5 ⟨x,rfl,hk5,hb5⟩
        obtain ⟨g1,g2,g3⟩:=two_news w5 #[.int .i64 x.kd,.int .i64 x.fr,.int .i64 x.to,.string ⟨x.tx.toArray⟩,.slice x.A x.n x.c,.slice x.B x.m x.d] #[.int .i64 kk,.int .i64 pp] 29 55
        have SP:GvX W ((w5.alloc (.cells #[.int .i64 x.kd,.int .i64 x.fr,.int .i64 x.to,.string ⟨x.tx.toArray⟩,.slice x.A x.n x.c,.slice x.B x.m x.d] 29)).alloc (.cells #[.int .i64 kk,.int .i64 pp] 55)) w5.heap.size x pv kk pp:=by
          have hz:=HB.out.size
          have hi:W.heap.size<wr.heap.size:=Own.inside H6.out
          have hz5:=hb5.size
          exact ⟨((Own.stay H6.out hb5 hi).over _).over _,(HB.out.trans (hb5.mono hz)).trans (g3.mono (Nat.le_trans hz hz5)),fun u hu=>hk5 u (fun b h1 h2=>(hu b (by omega) h2).trans (g3.block b h2)),by omega,g1,g2⟩
        clear g1 g2 g3 hk5 hb5))
    generalize (w5.alloc (.cells #[.int .i64 x.kd,.int .i64 x.fr,.int .i64 x.to,.string ⟨x.tx.toArray⟩,.slice x.A x.n x.c,.slice x.B x.m x.d] 29)).alloc (.cells #[.int .i64 kk,.int .i64 pp] 55)=wP at SP ⊢
    generalize w5.heap.size=p at SP ⊢
    have hlow:=SP.low
    have q0:=SP.val.at 0
    have q1:=SP.val.at 1
    have q2':=SP.val.at 2
    have q3:=SP.val.at 3
    have q4:=SP.val.at 4
    have q5:=SP.val.at 5
    simp at q0 q1 q2' q3 q4 q5
    have r0:=SP.verd.at 0
    simp at r0
    have n1:¬ p=W.heap.size:=by omega
    have n2:¬ p+1=W.heap.size:=by omega
    have n3:¬ W.heap.size=p:=by omega
    have n4:¬ W.heap.size=p+1:=by omega
    obtain ⟨y0,y1,y2,y3,y4,y5⟩:=SP.six.facts
    have f0:=Own.free SP.six 0
    have f1:=Own.free SP.six 1
    have f2:=Own.free SP.six 2
    have f3:=Own.free SP.six 3
    have f4:=Own.free SP.six 4
    have f5:=Own.free SP.six 5
    have HD:=hid SP.done
    clear SP HP HX HQ cv HB H6
    unfold put6G at HD
    go_region
    all_goals
      rename_i hK
      clear q0 q1 q2' q3 q4 q5 r0 n1 n2 n3 n4 y0 y1 y2 y3 y4 y5 f0 f1 f2 f3 f4 f5
      refine hK _ _ ?_
      go_wp2
      refine bodyPost_ret (results_cell_tmp16 rfl _ _ W.heap.size _ _ (0,0) _ rfl HD.out.1 Tryz.underlying29 rfl val_size16) rfl ?_
      exact ⟨_,_,_,_,_,_,_,_,_,_,_,rfl,fun h=>⟨pv,HD.out.2.1,by obtain ⟨e1,e2,e3,e4⟩:=HOK.out HIN.out (eq_of_beq h);exact ⟨e1,e2,e3,e4⟩⟩,HD.out.2.2⟩
end
end Go.Proofs.YtnokhgfifbkflaaGreat
