/- Lemmas. -/
import Derived.Test.YtmgdjlkndbejkaaGreatDoorJ35
set_option maxRecDepth 100000
set_option maxHeartbeats 8000000
set_option linter.unusedVariables false
set_option linter.unusedSimpArgs false
namespace Go.Proofs.YtmgdjlkndbejkaaGreatDoor
open Go.Lib (hid)
section
open Go.RowKit
def SeI (W:World) (b:Nat) (r:List UInt8) (ds:Array Value) (w:World):Prop :=
 b<W.heap.size∧r.length≤1000000∧Went W b r w∧Own w W.heap.size 35 ds
section
variable {W w w':World} {b:Nat} {r r':List UInt8} {ds:Array Value}
theorem SeI.went (h:SeI W b r ds w) (hw:Went w b r' w') (hl:r'.length≤r.length):SeI W b r' ds w' :=
 ⟨h.1,Nat.le_trans hl h.2.1,h.2.2.1.trans hw,Own.turned h.2.2.2 hw.2 (by have:=h.1;omega)⟩
theorem SeI.res (h:SeI W b r ds w) (i:Nat) (u:Value):SeI W b r (ds.setIfInBounds i u) (w.setCell ⟨W.heap.size,i,none⟩ u) :=
 ⟨h.1,h.2.1,⟨h.2.2.1.1.past (by have:=h.1;show b≠W.heap.size;omega) u,by
   have t:=h.2.2.1.2
   refine ⟨t.1,t.2.1,t.2.2.1,by simpa [World.setCell] using t.2.2.2.1,fun k hk hne=>(Below.heap_setCell w ⟨W.heap.size,i,none⟩ u k (by show k≠W.heap.size;omega)).trans (t.2.2.2.2 k hk hne)⟩⟩,Own.put h.2.2.2 i u⟩
theorem SeI.dat (h:SeI W b r ds w)(i:Nat):w.cell? ⟨W.heap.size,i,none⟩=ds[i]?:=h.2.2.2.at i
theorem SeI.dfree (h:SeI W b r ds w)(i:Nat):w.frozen? ⟨W.heap.size,i,none⟩=false:=h.2.2.2.free i
theorem SeI.skip (h:SeI W b r ds w):Calls Tryz.prog 36 #[.pointer (some ⟨b,0,none⟩)] w fun e w'=>e=.returned (.tuple #[])∧SeI W b (skB r) ds w':=by
 refine (skip_any b r w h.2.2.1.1 h.2.1).mono ?_
 rintro e w' ⟨rfl,hw⟩
 exact ⟨rfl,h.went hw (skB_le r)⟩
theorem SeI.int (h:SeI W b r ds w):Calls Tryz.prog 68 #[.pointer (some ⟨b,0,none⟩)] w fun e w'=>e=.returned (.tuple #[.int .i64 ((intA r).1.getD 0),.bool (intA r).1.isSome])∧SeI W b (intA r).2 ds w':=by
 refine (integer_any b r w h.2.2.1.1 h.2.1).mono ?_
 rintro e w' ⟨rfl,hw⟩
 exact ⟨rfl,h.went hw (intA_le r)⟩
theorem SeI.yes {c:UInt8} (h:SeI W b r ds w) (hc:r.head?=some c):Calls Tryz.prog 15 #[.pointer (some ⟨b,0,none⟩),.string ⟨#[c]⟩] w fun e w'=>e=.returned (.bool true)∧SeI W b r.tail ds w':=by
 cases r with
 | nil=>cases hc
 | cons d t =>
   obtain rfl:=Option.some.inj hc
   refine (take_yes b d t w h.2.2.1.1).mono ?_
   rintro e w' ⟨rfl,hw⟩
   exact ⟨rfl,h.went hw (by simp)⟩
theorem SeI.no {c:UInt8} (h:SeI W b r ds w) (hc:r.head?≠some c):Calls Tryz.prog 15 #[.pointer (some ⟨b,0,none⟩),.string ⟨#[c]⟩] w fun e w'=>e=.returned (.bool false)∧SeI W b r ds w':=by
 refine (take_no b c r w h.2.2.1.1 hc).mono ?_
 rintro e w' ⟨rfl,hw⟩
 exact ⟨rfl,h.went hw (Nat.le_refl _)⟩
theorem SeI.slice (h:SeI W b r ds w) (a:Option Int):Calls Tryz.prog 69 #[.pointer (some ⟨b,0,none⟩),.agg #[.int .i64 3,.string ⟨#[]⟩,.int .i64 0,.int .i64 (a.getD 0),.int .i64 0,.bool a.isSome,.bool false,.int .i64 0]] w fun e w'=>e=.returned (.agg #[.int .i64 (slcR a r).1.kind,.string (slcR a r).1.name,.int .i64 (slcR a r).1.index,.int .i64 (slcR a r).1.start,.int .i64 (slcR a r).1.en,.bool (slcR a r).1.hs,.bool (slcR a r).1.he,.int .i64 (slcR a r).1.stride])∧SeI W b (slcR a r).2 ds w':=by
 refine (sl_case b r w h.2.2.1.1 h.2.1 a).mono ?_
 rintro e w' ⟨rfl,hw⟩
 refine ⟨rfl,h.went hw ?_⟩
 unfold slcR slcE
 have l1:=skB_le r
 have l2:=intA_le (skB r)
 have l3:=skB_le (intA (skB r)).2
 have l4:=skB_le (skB (intA (skB r)).2).tail
 split
 ·have l5:(skB (intA (skB r)).2).tail.length≤(skB (intA (skB r)).2).length:=by simp
  split
  ·show (List.drop _ _).length≤_
   rw[List.length_drop];omega
  ·show (skB _).length≤_
   omega
 ·show (skB _).length≤_
  omega
def SeNm (W:World) (b:Nat) (o:Option (List UInt8×List UInt8)) (ds:Array Value) (nm:ByteArray) (ok:Bool) (w:World):Prop :=
 ∃ r,Went W b r w∧Own w W.heap.size 35 ds∧match o with
   | none=>ok=false
   | some (u,r')=>ok=true∧nm=⟨u.toArray⟩∧r=r'
theorem SeI.name {e:Ending} {o:Option (List UInt8×List UInt8)} (h:SeI W b r ds w) (hn:NmEnd o b w e w'):∃ nm ok,e=.returned (.tuple #[.string nm,.bool ok])∧SeNm W b o ds nm ok w':=by
 obtain ⟨nm,ok,r',rfl,hw,hm⟩:=hn
 exact ⟨nm,ok,rfl,r',h.2.2.1.trans hw,Own.turned h.2.2.2 hw.2 (by have:=h.1;omega),hm⟩
end
theorem SeI.single {W w:World} {b:Nat} {r:List UInt8} {ds:Array Value} (h:SeI W b r ds w):Calls Tryz.prog 66 #[.pointer (some ⟨b,0,none⟩)] w fun e w' => ∃ nm ok,e=.returned (.tuple #[.string nm,.bool ok])∧SeNm W b (sngR r) ds nm ok w' :=
 (single_any b r w h.2.2.1.1 h.2.1).mono fun e w' hn=>SeI.name h hn
theorem SeI.double {W w:World} {b:Nat} {r:List UInt8} {ds:Array Value} (h:SeI W b r ds w):Calls Tryz.prog 67 #[.pointer (some ⟨b,0,none⟩)] w fun e w' => ∃ nm ok,e=.returned (.tuple #[.string nm,.bool ok])∧SeNm W b (dblR r) ds nm ok w' :=
 (double_any b r w h.2.2.1.1 h.2.1).mono fun e w' hn=>SeI.name h hn
theorem selR_on (l:List UInt8):selR l=if l.head?=some 42 then some (sqA,l.tail)
 else if l.head?=some 39 then (sngR l.tail).map fun p=>(sqN p.1,p.2)
 else if l.head?=some 34 then (dblR l.tail).map fun p=>(sqN p.1,p.2)
 else if (skB (intA l).2).head?=some 58 then some (slcR (intA l).1 (skB (intA l).2).tail)
 else (intA l).1.map fun v=>(sqI v,skB (intA l).2):=rfl
theorem SeI.start {W:World} {b:Nat} {r:List UInt8} (h:RdR W b r) (hl:r.length≤1000000) (ds:Array Value):SeI W b r ds (W.alloc (.cells ds 35)) :=
 ⟨h.inside,hl,Went.new h (below1 W _),Own.fresh W 35 ds⟩
def SelEnd (l:List UInt8) (b:Nat) (W:World) (e:Ending) (w':World):Prop :=
 ∃ (x:Sel) (ok:Bool) (r:List UInt8),e=.returned (.tuple #[.agg #[.int .i64 x.kind,.string x.name,.int .i64 x.index,.int .i64 x.start,.int .i64 x.en,.bool x.hs,.bool x.he,.int .i64 x.stride],.bool ok])∧Went W b r w'∧match selR l with
   | none=>ok=false
   | some (x',r')=>ok=true∧x=x'∧r=r'
theorem SelEnd.yes {l r:List UInt8} {b:Nat} {W w':World} {e:Ending} (x:Sel) (he:e=.returned (.tuple #[.agg #[.int .i64 x.kind,.string x.name,.int .i64 x.index,.int .i64 x.start,.int .i64 x.en,.bool x.hs,.bool x.he,.int .i64 x.stride],.bool true])) (hw:Went W b r w') (h:selR l=some (x,r)):SelEnd l b W e w' :=
 ⟨x,true,r,he,hw,by rw[h];exact ⟨rfl,rfl,rfl⟩⟩
theorem SelEnd.nm {l r:List UInt8} {b:Nat} {W w':World} {e:Ending} {o:Option (List UInt8×List UInt8)} {nm:ByteArray} {ok:Bool} (he:e=.returned (.tuple #[.agg #[.int .i64 0,.string nm,.int .i64 0,.int .i64 0,.int .i64 0,.bool false,.bool false,.int .i64 0],.bool ok])) (hw:Went W b r w')
   (hm:match o with|none=>ok=false|some (u,r')=>ok=true∧nm=⟨u.toArray⟩∧r=r') (h:selR l=o.map fun p=>(sqN p.1,p.2)):SelEnd l b W e w':=by
 refine ⟨⟨0,nm,0,0,0,false,false,0⟩,ok,r,he,hw,?_⟩
 rw[h]
 cases o with
 | none=>exact hm
 | some p=>obtain ⟨h1,h2,h3⟩:=hm;exact ⟨h1,by rw[h2];rfl,h3⟩
theorem selr_all (b:Nat) (l:List UInt8) (W:World) (h:RdR W b l) (hl:l.length≤1000000) (h42:l.head?=some 42) :
   Calls Tryz.prog 54 #[.pointer (some ⟨b,0,none⟩)] W (SelEnd l b W):=by
 have H0:=hid (SeI.start h hl selZ)
 have hs:=selR_on l
 unfold selZ at H0
 rw[if_pos h42] at hs
 have HS:=hid hs
 clear hs
 clear h hl
 go_enter Tryz.func54,Tryz.ntmps54
 go_wp2_with (first
   | (go_at_call 15;with_reducible refine (SeI.yes H0.out h42).mono ?_
      go_must (
        rintro e w1 ⟨rfl,i1⟩
        have d0:w1.cell? ⟨W.heap.size,0,none⟩=some (.int .i64 0):=i1.dat 0
        have df0:=i1.dfree 0
        have d1:w1.cell? ⟨W.heap.size,1,none⟩=some (.string ⟨#[]⟩):=i1.dat 1
        have df1:=i1.dfree 1
        have d2:w1.cell? ⟨W.heap.size,2,none⟩=some (.int .i64 0):=i1.dat 2
        have df2:=i1.dfree 2
        have d3:w1.cell? ⟨W.heap.size,3,none⟩=some (.int .i64 0):=i1.dat 3
        have df3:=i1.dfree 3
        have d4:w1.cell? ⟨W.heap.size,4,none⟩=some (.int .i64 0):=i1.dat 4
        have df4:=i1.dfree 4
        have d5:w1.cell? ⟨W.heap.size,5,none⟩=some (.bool false):=i1.dat 5
        have df5:=i1.dfree 5
        have d6:w1.cell? ⟨W.heap.size,6,none⟩=some (.bool false):=i1.dat 6
        have df6:=i1.dfree 6
        have d7:w1.cell? ⟨W.heap.size,7,none⟩=some (.int .i64 0):=i1.dat 7
        have df7:=i1.dfree 7
        have H1:=hid i1
        clear i1)))
 have HF:=((((((((H1.out).res 0 (.int .i64 1)).res 1 (.string ⟨#[]⟩)).res 2 (.int .i64 0)).res 3 (.int .i64 0)).res 4 (.int .i64 0)).res 5 (.bool false)).res 6 (.bool false)).res 7 (.int .i64 0)
 simp at HF
 have g0:=HF.dat 0;have g1:=HF.dat 1;have g2:=HF.dat 2;have g3:=HF.dat 3;have g4:=HF.dat 4;have g5:=HF.dat 5;have g6:=HF.dat 6;have g7:=HF.dat 7
 simp at g0 g1 g2 g3 g4 g5 g6 g7
 refine bodyPost_ret (by simp[results,Tryz.results54,go_sem,g0,g1,g2,g3,g4,g5,g6,g7];try rfl) rfl ?_
 exact SelEnd.yes sqA rfl HF.2.2.1 HS.out
theorem setw {W w:World} {b:Nat} {r:List UInt8} (h:Went W b r w) (hb:b<W.heap.size) (i:Nat) (u:Value):Went W b r (w.setCell ⟨W.heap.size,i,none⟩ u) :=
 ⟨h.1.past (by show b≠W.heap.size;omega) u,by
   have t:=h.2
   refine ⟨t.1,t.2.1,t.2.2.1,by simpa [World.setCell] using t.2.2.2.1,fun k hk hne=>(Below.heap_setCell w ⟨W.heap.size,i,none⟩ u k (by show k≠W.heap.size;omega)).trans (t.2.2.2.2 k hk hne)⟩⟩
theorem selr_single (b:Nat) (l:List UInt8) (W:World) (h:RdR W b l) (hl:l.length≤1000000) (h42:l.head?≠some 42) (h39:l.head?=some 39) :
   Calls Tryz.prog 54 #[.pointer (some ⟨b,0,none⟩)] W (SelEnd l b W):=by
 have H0:=hid (SeI.start h hl selZ)
 have hs:=selR_on l
 unfold selZ at H0
 rw[if_neg h42,if_pos h39] at hs
 have HB:=h.inside
 have HS:=hid hs
 clear hs
 clear h hl
 go_enter Tryz.func54,Tryz.ntmps54
 go_wp2_with (first
   | (go_at_call 15;with_reducible refine (SeI.no H0.out h42).mono ?_
      go_must (
        rintro e w1 ⟨rfl,i1⟩
        have H1:=hid i1
        clear i1))
   | (go_at_call 15;with_reducible refine (SeI.yes H1.out h39).mono ?_
      go_must (
        rintro e w2 ⟨rfl,i2⟩
        have H2:=hid i2
        clear i2))
   | (go_at_call 66;with_reducible refine (SeI.single H2.out).mono ?_
      go_must (
        rintro e w3 ⟨nm,ok,rfl,hs8⟩
        have ho8:=hs8.elim fun _ h=>h.2.1
        have d0:w3.cell? ⟨W.heap.size,0,none⟩=some (.int .i64 0):=ho8.at 0
        have df0:=ho8.free 0
        have d1:w3.cell? ⟨W.heap.size,1,none⟩=some (.string ⟨#[]⟩):=ho8.at 1
        have df1:=ho8.free 1
        have d2:w3.cell? ⟨W.heap.size,2,none⟩=some (.int .i64 0):=ho8.at 2
        have df2:=ho8.free 2
        have d3:w3.cell? ⟨W.heap.size,3,none⟩=some (.int .i64 0):=ho8.at 3
        have df3:=ho8.free 3
        have d4:w3.cell? ⟨W.heap.size,4,none⟩=some (.int .i64 0):=ho8.at 4
        have df4:=ho8.free 4
        have d5:w3.cell? ⟨W.heap.size,5,none⟩=some (.bool false):=ho8.at 5
        have df5:=ho8.free 5
        have d6:w3.cell? ⟨W.heap.size,6,none⟩=some (.bool false):=ho8.at 6
        have df6:=ho8.free 6
        have d7:w3.cell? ⟨W.heap.size,7,none⟩=some (.int .i64 0):=ho8.at 7
        have df7:=ho8.free 7
        have H3:=hid hs8
        clear hs8 ho8)))
 obtain ⟨r9,hw9,ho9,hm9⟩:=H3.out
 have ho:=((((((((ho9.put 0 (.int .i64 0)).put 1 (.string nm)).put 2 (.int .i64 0)).put 3 (.int .i64 0)).put 4 (.int .i64 0)).put 5 (.bool false)).put 6 (.bool false)).put 7 (.int .i64 0))
 have hw:=setw (setw (setw (setw (setw (setw (setw (setw hw9 HB 0 (.int .i64 0)) HB 1 (.string nm)) HB 2 (.int .i64 0)) HB 3 (.int .i64 0)) HB 4 (.int .i64 0)) HB 5 (.bool false)) HB 6 (.bool false)) HB 7 (.int .i64 0)
 simp at ho
 have g0:=ho.at 0;have g1:=ho.at 1;have g2:=ho.at 2;have g3:=ho.at 3;have g4:=ho.at 4;have g5:=ho.at 5;have g6:=ho.at 6;have g7:=ho.at 7
 simp at g0 g1 g2 g3 g4 g5 g6 g7
 refine bodyPost_ret (by simp[results,Tryz.results54,go_sem,g0,g1,g2,g3,g4,g5,g6,g7];try rfl) rfl ?_
 exact SelEnd.nm (nm:=nm) (ok:=ok) rfl hw hm9 HS.out
theorem selr_double (b:Nat) (l:List UInt8) (W:World) (h:RdR W b l) (hl:l.length≤1000000) (h42:l.head?≠some 42) (h39:l.head?≠some 39) (h34:l.head?=some 34) :
   Calls Tryz.prog 54 #[.pointer (some ⟨b,0,none⟩)] W (SelEnd l b W):=by
 have H0:=hid (SeI.start h hl selZ)
 have hs:=selR_on l
 unfold selZ at H0
 rw[if_neg h42,if_neg h39,if_pos h34] at hs
 have HB:=h.inside
 have HS:=hid hs
 clear hs
 clear h hl
 go_enter Tryz.func54,Tryz.ntmps54
 go_wp2_with (first
   | (go_at_call 15;with_reducible refine (SeI.no H0.out h42).mono ?_
      go_must (
        rintro e w1 ⟨rfl,i1⟩
        have H1:=hid i1
        clear i1))
   | (go_at_call 15;with_reducible refine (SeI.no H1.out h39).mono ?_
      go_must (
        rintro e w2 ⟨rfl,i2⟩
        have H2:=hid i2
        clear i2))
   | (go_at_call 15;with_reducible refine (SeI.yes H2.out h34).mono ?_
      go_must (
        rintro e w3 ⟨rfl,i3⟩
        have H3:=hid i3
        clear i3))
   | (go_at_call 67;with_reducible refine (SeI.double H3.out).mono ?_
      go_must (
        rintro e w4 ⟨nm,ok,rfl,hs8⟩
        have ho8:=hs8.elim fun _ h=>h.2.1
        have d0:w4.cell? ⟨W.heap.size,0,none⟩=some (.int .i64 0):=ho8.at 0
        have df0:=ho8.free 0
        have d1:w4.cell? ⟨W.heap.size,1,none⟩=some (.string ⟨#[]⟩):=ho8.at 1
        have df1:=ho8.free 1
        have d2:w4.cell? ⟨W.heap.size,2,none⟩=some (.int .i64 0):=ho8.at 2
        have df2:=ho8.free 2
        have d3:w4.cell? ⟨W.heap.size,3,none⟩=some (.int .i64 0):=ho8.at 3
        have df3:=ho8.free 3
        have d4:w4.cell? ⟨W.heap.size,4,none⟩=some (.int .i64 0):=ho8.at 4
        have df4:=ho8.free 4
        have d5:w4.cell? ⟨W.heap.size,5,none⟩=some (.bool false):=ho8.at 5
        have df5:=ho8.free 5
        have d6:w4.cell? ⟨W.heap.size,6,none⟩=some (.bool false):=ho8.at 6
        have df6:=ho8.free 6
        have d7:w4.cell? ⟨W.heap.size,7,none⟩=some (.int .i64 0):=ho8.at 7
        have df7:=ho8.free 7
        have H4:=hid hs8
        clear hs8 ho8)))
 obtain ⟨r9,hw9,ho9,hm9⟩:=H4.out
 have ho:=((((((((ho9.put 0 (.int .i64 0)).put 1 (.string nm)).put 2 (.int .i64 0)).put 3 (.int .i64 0)).put 4 (.int .i64 0)).put 5 (.bool false)).put 6 (.bool false)).put 7 (.int .i64 0))
 have hw:=setw (setw (setw (setw (setw (setw (setw (setw hw9 HB 0 (.int .i64 0)) HB 1 (.string nm)) HB 2 (.int .i64 0)) HB 3 (.int .i64 0)) HB 4 (.int .i64 0)) HB 5 (.bool false)) HB 6 (.bool false)) HB 7 (.int .i64 0)
 simp at ho
 have g0:=ho.at 0;have g1:=ho.at 1;have g2:=ho.at 2;have g3:=ho.at 3;have g4:=ho.at 4;have g5:=ho.at 5;have g6:=ho.at 6;have g7:=ho.at 7
 simp at g0 g1 g2 g3 g4 g5 g6 g7
 refine bodyPost_ret (by simp[results,Tryz.results54,go_sem,g0,g1,g2,g3,g4,g5,g6,g7];try rfl) rfl ?_
 exact SelEnd.nm (nm:=nm) (ok:=ok) rfl hw hm9 HS.out
theorem selr_index (b:Nat) (l:List UInt8) (W:World) (h:RdR W b l) (hl:l.length≤1000000) (h42:l.head?≠some 42) (h39:l.head?≠some 39) (h34:l.head?≠some 34) (h58:(skB (intA l).2).head?≠some 58) :
   Calls Tryz.prog 54 #[.pointer (some ⟨b,0,none⟩)] W (SelEnd l b W):=by
 have H0:=hid (SeI.start h hl selZ)
 have hs:=selR_on l
 unfold selZ at H0
 rw[if_neg h42,if_neg h39,if_neg h34,if_neg h58] at hs
 have HS:=hid hs
 clear hs
 clear h hl
 go_enter Tryz.func54,Tryz.ntmps54
 go_wp2_with (first
   | (go_at_call 15;with_reducible refine (SeI.no H0.out h42).mono ?_
      go_must (
        rintro e w1 ⟨rfl,i1⟩
        have H1:=hid i1
        clear i1))
   | (go_at_call 15;with_reducible refine (SeI.no H1.out h39).mono ?_
      go_must (
        rintro e w2 ⟨rfl,i2⟩
        have H2:=hid i2
        clear i2))
   | (go_at_call 15;with_reducible refine (SeI.no H2.out h34).mono ?_
      go_must (
        rintro e w3 ⟨rfl,i3⟩
        have H3:=hid i3
        clear i3))
   | (go_at_call 68;with_reducible refine (SeI.int H3.out).mono ?_
      go_must (
        rintro e w4 ⟨rfl,i4⟩
        have H4:=hid i4
        clear i4))
   | (go_at_call 36;with_reducible refine (SeI.skip H4.out).mono ?_
      go_must (
        rintro e w5 ⟨rfl,i5⟩
        have H5:=hid i5
        clear i5))
   | (go_at_call 15;with_reducible refine (SeI.no H5.out h58).mono ?_
      go_must (
        rintro e w6 ⟨rfl,i6⟩
        have d0:w6.cell? ⟨W.heap.size,0,none⟩=some (.int .i64 0):=i6.dat 0
        have df0:=i6.dfree 0
        have d1:w6.cell? ⟨W.heap.size,1,none⟩=some (.string ⟨#[]⟩):=i6.dat 1
        have df1:=i6.dfree 1
        have d2:w6.cell? ⟨W.heap.size,2,none⟩=some (.int .i64 0):=i6.dat 2
        have df2:=i6.dfree 2
        have d3:w6.cell? ⟨W.heap.size,3,none⟩=some (.int .i64 0):=i6.dat 3
        have df3:=i6.dfree 3
        have d4:w6.cell? ⟨W.heap.size,4,none⟩=some (.int .i64 0):=i6.dat 4
        have df4:=i6.dfree 4
        have d5:w6.cell? ⟨W.heap.size,5,none⟩=some (.bool false):=i6.dat 5
        have df5:=i6.dfree 5
        have d6:w6.cell? ⟨W.heap.size,6,none⟩=some (.bool false):=i6.dat 6
        have df6:=i6.dfree 6
        have d7:w6.cell? ⟨W.heap.size,7,none⟩=some (.int .i64 0):=i6.dat 7
        have df7:=i6.dfree 7
        have H6:=hid i6
        clear i6)))
 have HF:=((((((((H6.out).res 0 (.int .i64 2)).res 1 (.string ⟨#[]⟩)).res 2 (.int .i64 ((intA l).1.getD 0))).res 3 (.int .i64 0)).res 4 (.int .i64 0)).res 5 (.bool false)).res 6 (.bool false)).res 7 (.int .i64 0)
 simp at HF
 have g0:=HF.dat 0;have g1:=HF.dat 1;have g2:=HF.dat 2;have g3:=HF.dat 3;have g4:=HF.dat 4;have g5:=HF.dat 5;have g6:=HF.dat 6;have g7:=HF.dat 7
 simp at g0 g1 g2 g3 g4 g5 g6 g7
 refine bodyPost_ret (by simp[results,Tryz.results54,go_sem,g0,g1,g2,g3,g4,g5,g6,g7];try rfl) rfl ?_
 have HW:=HF.2.2.1
 have hs9:=HS.out
 cases hi:(intA l).1 with
 | none=>rw[hi] at hs9;exact ⟨⟨2,⟨#[]⟩,0,0,0,false,false,0⟩,false,_,rfl,(by rw[hi] at HW;exact HW),by rw[hs9];rfl⟩
 | some v=>rw[hi] at hs9;exact SelEnd.yes (sqI v) rfl (by rw[hi] at HW;exact HW) hs9
theorem selr_slice (b:Nat) (l:List UInt8) (W:World) (h:RdR W b l) (hl:l.length≤1000000) (h42:l.head?≠some 42) (h39:l.head?≠some 39) (h34:l.head?≠some 34) (h58:(skB (intA l).2).head?=some 58) :
   Calls Tryz.prog 54 #[.pointer (some ⟨b,0,none⟩)] W (SelEnd l b W):=by
 have H0:=hid (SeI.start h hl selZ)
 have hs:=selR_on l
 unfold selZ at H0
 rw[if_neg h42,if_neg h39,if_neg h34,if_pos h58] at hs
 have HS:=hid hs
 clear hs
 clear h hl
 go_enter Tryz.func54,Tryz.ntmps54
 go_wp2_with (first
   | (go_at_call 15;with_reducible refine (SeI.no H0.out h42).mono ?_
      go_must (
        rintro e w1 ⟨rfl,i1⟩
        have H1:=hid i1
        clear i1))
   | (go_at_call 15;with_reducible refine (SeI.no H1.out h39).mono ?_
      go_must (
        rintro e w2 ⟨rfl,i2⟩
        have H2:=hid i2
        clear i2))
   | (go_at_call 15;with_reducible refine (SeI.no H2.out h34).mono ?_
      go_must (
        rintro e w3 ⟨rfl,i3⟩
        have H3:=hid i3
        clear i3))
   | (go_at_call 68;with_reducible refine (SeI.int H3.out).mono ?_
      go_must (
        rintro e w4 ⟨rfl,i4⟩
        have H4:=hid i4
        clear i4))
   | (go_at_call 36;with_reducible refine (SeI.skip H4.out).mono ?_
      go_must (
        rintro e w5 ⟨rfl,i5⟩
        have H5:=hid i5
        clear i5))
   | (go_at_call 15;with_reducible refine (SeI.yes H5.out h58).mono ?_
      go_must (
        rintro e w6 ⟨rfl,i6⟩
        have H6:=hid i6
        clear i6))
   | (go_at_call 69;with_reducible refine (SeI.slice H6.out (intA l).1).mono ?_
      go_must (
        rintro e w7 ⟨rfl,i7⟩
        have d0:w7.cell? ⟨W.heap.size,0,none⟩=some (.int .i64 0):=i7.dat 0
        have df0:=i7.dfree 0
        have d1:w7.cell? ⟨W.heap.size,1,none⟩=some (.string ⟨#[]⟩):=i7.dat 1
        have df1:=i7.dfree 1
        have d2:w7.cell? ⟨W.heap.size,2,none⟩=some (.int .i64 0):=i7.dat 2
        have df2:=i7.dfree 2
        have d3:w7.cell? ⟨W.heap.size,3,none⟩=some (.int .i64 0):=i7.dat 3
        have df3:=i7.dfree 3
        have d4:w7.cell? ⟨W.heap.size,4,none⟩=some (.int .i64 0):=i7.dat 4
        have df4:=i7.dfree 4
        have d5:w7.cell? ⟨W.heap.size,5,none⟩=some (.bool false):=i7.dat 5
        have df5:=i7.dfree 5
        have d6:w7.cell? ⟨W.heap.size,6,none⟩=some (.bool false):=i7.dat 6
        have df6:=i7.dfree 6
        have d7:w7.cell? ⟨W.heap.size,7,none⟩=some (.int .i64 0):=i7.dat 7
        have df7:=i7.dfree 7
        have H7:=hid i7
        clear i7)))
 have HF:=((((((((H7.out).res 0 (.int .i64 (slcR (intA l).1 (skB (intA l).2).tail).1.kind)).res 1 (.string (slcR (intA l).1 (skB (intA l).2).tail).1.name)).res 2 (.int .i64 (slcR (intA l).1 (skB (intA l).2).tail).1.index)).res 3 (.int .i64 (slcR (intA l).1 (skB (intA l).2).tail).1.start)).res 4 (.int .i64 (slcR (intA l).1 (skB (intA l).2).tail).1.en)).res 5 (.bool (slcR (intA l).1 (skB (intA l).2).tail).1.hs)).res 6 (.bool (slcR (intA l).1 (skB (intA l).2).tail).1.he)).res 7 (.int .i64 (slcR (intA l).1 (skB (intA l).2).tail).1.stride)
 simp at HF
 have g0:=HF.dat 0;have g1:=HF.dat 1;have g2:=HF.dat 2;have g3:=HF.dat 3;have g4:=HF.dat 4;have g5:=HF.dat 5;have g6:=HF.dat 6;have g7:=HF.dat 7
 simp at g0 g1 g2 g3 g4 g5 g6 g7
 refine bodyPost_ret (by simp[results,Tryz.results54,go_sem,g0,g1,g2,g3,g4,g5,g6,g7];try rfl) rfl ?_
 exact SelEnd.yes _ rfl HF.2.2.1 HS.out
theorem selector_any (b:Nat) (l:List UInt8) (W:World) (h:RdR W b l) (hl:l.length≤1000000) :
   Calls Tryz.prog 54 #[.pointer (some ⟨b,0,none⟩)] W (SelEnd l b W):=by
 by_cases h42:l.head?=some 42
 ·exact selr_all b l W h hl h42
 by_cases h39:l.head?=some 39
 ·exact selr_single b l W h hl h42 h39
 by_cases h34:l.head?=some 34
 ·exact selr_double b l W h hl h42 h39 h34
 by_cases h58:(skB (intA l).2).head?=some 58
 ·exact selr_slice b l W h hl h42 h39 h34 h58
 ·exact selr_index b l W h hl h42 h39 h34 h58
end
end Go.Proofs.YtmgdjlkndbejkaaGreatDoor
