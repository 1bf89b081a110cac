/- Lemmas. -/
import Derived.Test.YtmgdjlkndbejkaaGreatDoorJ34
set_option maxRecDepth 100000
set_option maxHeartbeats 8000000
set_option linter.unusedVariables false
set_option linter.unusedSimpArgs false
namespace Go.Proofs.YtmgdjlkndbejkaaGreatDoor
open Go.Lib (hid)
section
open Go.RowKit
def SlI (W:World) (b:Nat) (r:List UInt8) (cs ds:Array Value) (w:World):Prop :=
 b<W.heap.size∧r.length≤1000000∧Went W b r w∧Own w W.heap.size 35 cs∧Own w (W.heap.size+1) 35 ds
section
variable {W w w':World} {b:Nat} {r r':List UInt8} {cs ds:Array Value}
theorem SlI.went (h:SlI W b r cs ds w) (hw:Went w b r' w') (hl:r'.length≤r.length):SlI W b r' cs ds w' :=
 ⟨h.1,Nat.le_trans hl h.2.1,h.2.2.1.trans hw,Own.turned h.2.2.2.1 hw.2 (by have:=h.1;omega),Own.turned h.2.2.2.2 hw.2 (by have:=h.1;omega)⟩
theorem SlI.put (h:SlI W b r cs ds w) (i:Nat) (u:Value):SlI W b r (cs.setIfInBounds i u) ds (w.setCell ⟨W.heap.size,i,none⟩ u) :=
 ⟨h.1,h.2.1,⟨h.2.2.1.1.past (by have:=h.1;show b≠W.heap.size;omega) u,by
   have t:=h.2.2.1.2
   refine ⟨t.1,t.2.1,t.2.2.1,by simpa [World.setCell] using t.2.2.2.1,fun k hk hne=>(Below.heap_setCell w ⟨W.heap.size,i,none⟩ u k (by show k≠W.heap.size;omega)).trans (t.2.2.2.2 k hk hne)⟩⟩,Own.put h.2.2.2.1 i u,h.2.2.2.2.past (by show W.heap.size+1≠W.heap.size;omega) u⟩
theorem SlI.res (h:SlI W b r cs ds w) (i:Nat) (u:Value):SlI W b r cs (ds.setIfInBounds i u) (w.setCell ⟨W.heap.size+1,i,none⟩ u) :=
 ⟨h.1,h.2.1,⟨h.2.2.1.1.past (by have:=h.1;show b≠W.heap.size+1;omega) u,by
   have t:=h.2.2.1.2
   refine ⟨t.1,t.2.1,t.2.2.1,by simpa [World.setCell] using t.2.2.2.1,fun k hk hne=>(Below.heap_setCell w ⟨W.heap.size+1,i,none⟩ u k (by show k≠W.heap.size+1;omega)).trans (t.2.2.2.2 k hk hne)⟩⟩,h.2.2.2.1.past (by show W.heap.size≠W.heap.size+1;omega) u,Own.put h.2.2.2.2 i u⟩
theorem SlI.at (h:SlI W b r cs ds w)(i:Nat):w.cell? ⟨W.heap.size,i,none⟩=cs[i]?:=h.2.2.2.1.at i
theorem SlI.free (h:SlI W b r cs ds w)(i:Nat):w.frozen? ⟨W.heap.size,i,none⟩=false:=h.2.2.2.1.free i
theorem SlI.dat (h:SlI W b r cs ds w)(i:Nat):w.cell? ⟨W.heap.size+1,i,none⟩=ds[i]?:=h.2.2.2.2.at i
theorem SlI.dfree (h:SlI W b r cs ds w)(i:Nat):w.frozen? ⟨W.heap.size+1,i,none⟩=false:=h.2.2.2.2.free i
theorem skB_le (l:List UInt8):(skB l).length≤l.length:=by unfold skB;rw[List.length_drop];omega
theorem intA_le (l:List UInt8):(intA l).2.length≤l.length:=by
 unfold intA
 cases nrQ l with
 | none=>exact Nat.le_refl _
 | some p=>show (l.drop p.2).length≤_;rw[List.length_drop];omega
theorem SlI.skip (h:SlI W b r cs ds w):Calls Tryz.prog 36 #[.pointer (some ⟨b,0,none⟩)] w fun e w'=>e=.returned (.tuple #[])∧SlI W b (skB r) cs ds w':=by
 refine (skip_any b r w h.2.2.1.1 h.2.1).mono ?_
 rintro e w' ⟨rfl,hw⟩
 exact ⟨rfl,h.went hw (skB_le r)⟩
theorem SlI.int (h:SlI W b r cs ds w):Calls Tryz.prog 68 #[.pointer (some ⟨b,0,none⟩)] w fun e w'=>e=.returned (.tuple #[.int .i64 ((intA r).1.getD 0),.bool (intA r).1.isSome])∧SlI W b (intA r).2 cs ds w':=by
 refine (integer_any b r w h.2.2.1.1 h.2.1).mono ?_
 rintro e w' ⟨rfl,hw⟩
 exact ⟨rfl,h.went hw (intA_le r)⟩
theorem SlI.yes {c:UInt8} (h:SlI W b r cs ds w) (hc:r.head?=some c):Calls Tryz.prog 15 #[.pointer (some ⟨b,0,none⟩),.string ⟨#[c]⟩] w fun e w'=>e=.returned (.bool true)∧SlI W b r.tail cs ds w':=by
 cases r with
 | nil=>cases hc
 | cons d t =>
   obtain rfl:=Option.some.inj hc
   refine (take_yes b d t w h.2.2.1.1).mono ?_
   rintro e w' ⟨rfl,hw⟩
   exact ⟨rfl,h.went hw (by simp)⟩
theorem SlI.no {c:UInt8} (h:SlI W b r cs ds w) (hc:r.head?≠some c):Calls Tryz.prog 15 #[.pointer (some ⟨b,0,none⟩),.string ⟨#[c]⟩] w fun e w'=>e=.returned (.bool false)∧SlI W b r cs ds w':=by
 refine (take_no b c r w h.2.2.1.1 hc).mono ?_
 rintro e w' ⟨rfl,hw⟩
 exact ⟨rfl,h.went hw (Nat.le_refl _)⟩
end
def selZ:Array Value:=#[.int .i64 0,.string ⟨#[]⟩,.int .i64 0,.int .i64 0,.int .i64 0,.bool false,.bool false,.int .i64 0]
theorem SlI.start {W:World} {b:Nat} {r:List UInt8} (h:RdR W b r) (hl:r.length≤1000000) (cs ds:Array Value) :
   SlI W b r cs ds ((W.alloc (.cells cs 35)).alloc (.cells ds 35)):=by
 have hb:=(below1 W (.cells cs 35)).alloc (by simp) (.cells ds 35)
 refine ⟨h.inside,hl,Went.new h hb,(Own.fresh W 35 cs).over _,?_⟩
 have:=Own.fresh (W.alloc (.cells cs 35)) 35 ds
 rwa [show (W.alloc (.cells cs 35)).heap.size=W.heap.size+1 by simp] at this
theorem slice_no (b:Nat) (l r2 r3:List UInt8) (W:World) (h:RdR W b l) (hl:l.length≤1000000) (a:Option Int) (ev:Int) (hv:Bool) (h2:(intA (skB l)).2=r2) (hev:(intA (skB l)).1.getD 0=ev) (hhv:(intA (skB l)).1.isSome=hv) (h3:skB r2=r3) (h58:r3.head?≠some 58) :
   Calls Tryz.prog 69 #[.pointer (some ⟨b,0,none⟩),.agg #[.int .i64 3,.string ⟨#[]⟩,.int .i64 0,.int .i64 (a.getD 0),.int .i64 0,.bool a.isSome,.bool false,.int .i64 0]] W fun e w'=>e=.returned (.agg #[.int .i64 3,.string ⟨#[]⟩,.int .i64 0,.int .i64 (a.getD 0),.int .i64 ev,.bool a.isSome,.bool hv,.int .i64 1])∧Went W b r3 w':=by
 have H0:=hid (SlI.start h hl #[.int .i64 3,.string ⟨#[]⟩,.int .i64 0,.int .i64 (a.getD 0),.int .i64 0,.bool a.isSome,.bool false,.int .i64 1] selZ)
 unfold selZ at H0
 clear h hl
 go_enter Tryz.func69,Tryz.ntmps69
 go_wp2_with (first
   | (go_at_call 36;with_reducible refine (SlI.skip H0.out).mono ?_
      go_must (
        rintro e w1 ⟨rfl,i1⟩
        have H1:=hid i1
        clear i1))
   | (go_at_call 68;with_reducible refine (SlI.int H1.out).mono ?_
      go_must (
        rintro e w2 ⟨rfl,i2⟩
        rw[h2] at i2
        have c4:w2.cell? ⟨W.heap.size,4,none⟩=some (.int .i64 0):=i2.at 4
        have cf4:=i2.free 4
        have c6:w2.cell? ⟨W.heap.size,6,none⟩=some (.bool false):=i2.at 6
        have cf6:=i2.free 6
        have i3:SlI W b r2 #[.int .i64 3,.string ⟨#[]⟩,.int .i64 0,.int .i64 (a.getD 0),.int .i64 ev,.bool a.isSome,.bool hv,.int .i64 1] #[.int .i64 0,.string ⟨#[]⟩,.int .i64 0,.int .i64 0,.int .i64 0,.bool false,.bool false,.int .i64 0] ((w2.setCell ⟨W.heap.size,4,none⟩ (.int .i64 ev)).setCell ⟨W.heap.size,6,none⟩ (.bool hv)):=by simpa using (i2.put 4 (.int .i64 ev)).put 6 (.bool hv)
        rw[hev,hhv]
        have H3:=hid i3
        clear i2 i3))
   | (go_at_call 36;with_reducible refine (SlI.skip H3.out).mono ?_
      go_must (
        rintro e w4 ⟨rfl,i4⟩
        rw[h3] at i4
        have H4:=hid i4
        clear i4))
   | (go_at_call 15;with_reducible refine (SlI.no H4.out h58).mono ?_
      go_must (
        rintro e w5 ⟨rfl,i5⟩
        have c0:w5.cell? ⟨W.heap.size,0,none⟩=some (.int .i64 3):=i5.at 0
        have cf0:=i5.free 0
        have c1:w5.cell? ⟨W.heap.size,1,none⟩=some (.string ⟨#[]⟩):=i5.at 1
        have cf1:=i5.free 1
        have c2:w5.cell? ⟨W.heap.size,2,none⟩=some (.int .i64 0):=i5.at 2
        have cf2:=i5.free 2
        have c3:w5.cell? ⟨W.heap.size,3,none⟩=some (.int .i64 (a.getD 0)):=i5.at 3
        have cf3:=i5.free 3
        have c4:w5.cell? ⟨W.heap.size,4,none⟩=some (.int .i64 ev):=i5.at 4
        have cf4:=i5.free 4
        have c5:w5.cell? ⟨W.heap.size,5,none⟩=some (.bool a.isSome):=i5.at 5
        have cf5:=i5.free 5
        have c6:w5.cell? ⟨W.heap.size,6,none⟩=some (.bool hv):=i5.at 6
        have cf6:=i5.free 6
        have c7:w5.cell? ⟨W.heap.size,7,none⟩=some (.int .i64 1):=i5.at 7
        have cf7:=i5.free 7
        have d0:w5.cell? ⟨W.heap.size+1,0,none⟩=some (.int .i64 0):=i5.dat 0
        have df0:=i5.dfree 0
        have d1:w5.cell? ⟨W.heap.size+1,1,none⟩=some (.string ⟨#[]⟩):=i5.dat 1
        have df1:=i5.dfree 1
        have d2:w5.cell? ⟨W.heap.size+1,2,none⟩=some (.int .i64 0):=i5.dat 2
        have df2:=i5.dfree 2
        have d3:w5.cell? ⟨W.heap.size+1,3,none⟩=some (.int .i64 0):=i5.dat 3
        have df3:=i5.dfree 3
        have d4:w5.cell? ⟨W.heap.size+1,4,none⟩=some (.int .i64 0):=i5.dat 4
        have df4:=i5.dfree 4
        have d5:w5.cell? ⟨W.heap.size+1,5,none⟩=some (.bool false):=i5.dat 5
        have df5:=i5.dfree 5
        have d6:w5.cell? ⟨W.heap.size+1,6,none⟩=some (.bool false):=i5.dat 6
        have df6:=i5.dfree 6
        have d7:w5.cell? ⟨W.heap.size+1,7,none⟩=some (.int .i64 0):=i5.dat 7
        have df7:=i5.dfree 7
        have H5:=hid i5
        clear i5)))
 have HF:=((((((((H5.out).res 0 (.int .i64 3)).res 1 (.string ⟨#[]⟩)).res 2 (.int .i64 0)).res 3 (.int .i64 (a.getD 0))).res 4 (.int .i64 ev)).res 5 (.bool a.isSome)).res 6 (.bool hv)).res 7 (.int .i64 1)
 simp at HF
 have g0:=HF.dat 0;have g1:=HF.dat 1;have g2:=HF.dat 2;have g3:=HF.dat 3;have g4:=HF.dat 4;have g5:=HF.dat 5;have g6:=HF.dat 6;have g7:=HF.dat 7
 simp at g0 g1 g2 g3 g4 g5 g6 g7
 refine bodyPost_ret (by simp[results,Tryz.results69,go_sem,g0,g1,g2,g3,g4,g5,g6,g7];try rfl) rfl ?_
 exact ⟨rfl,HF.2.2.1⟩
theorem slice_two (b:Nat) (l r2 r3 r4:List UInt8) (W:World) (h:RdR W b l) (hl:l.length≤1000000) (a:Option Int) (ev:Int) (hv:Bool) (h2:(intA (skB l)).2=r2) (hev:(intA (skB l)).1.getD 0=ev) (hhv:(intA (skB l)).1.isSome=hv) (h3:skB r2=r3) (h58:r3.head?=some 58) (h4:skB r3.tail=r4) (hn:nrQ r4=none) :
   Calls Tryz.prog 69 #[.pointer (some ⟨b,0,none⟩),.agg #[.int .i64 3,.string ⟨#[]⟩,.int .i64 0,.int .i64 (a.getD 0),.int .i64 0,.bool a.isSome,.bool false,.int .i64 0]] W fun e w'=>e=.returned (.agg #[.int .i64 3,.string ⟨#[]⟩,.int .i64 0,.int .i64 (a.getD 0),.int .i64 ev,.bool a.isSome,.bool hv,.int .i64 1])∧Went W b r4 w':=by
 have H0:=hid (SlI.start h hl #[.int .i64 3,.string ⟨#[]⟩,.int .i64 0,.int .i64 (a.getD 0),.int .i64 0,.bool a.isSome,.bool false,.int .i64 1] selZ)
 unfold selZ at H0
 clear h hl
 go_enter Tryz.func69,Tryz.ntmps69
 go_wp2_with (first
   | (go_at_call 36;with_reducible refine (SlI.skip H0.out).mono ?_
      go_must (
        rintro e w1 ⟨rfl,i1⟩
        have H1:=hid i1
        clear i1))
   | (go_at_call 68;with_reducible refine (SlI.int H1.out).mono ?_
      go_must (
        rintro e w2 ⟨rfl,i2⟩
        rw[h2] at i2
        have c4:w2.cell? ⟨W.heap.size,4,none⟩=some (.int .i64 0):=i2.at 4
        have cf4:=i2.free 4
        have c6:w2.cell? ⟨W.heap.size,6,none⟩=some (.bool false):=i2.at 6
        have cf6:=i2.free 6
        have i3:SlI W b r2 #[.int .i64 3,.string ⟨#[]⟩,.int .i64 0,.int .i64 (a.getD 0),.int .i64 ev,.bool a.isSome,.bool hv,.int .i64 1] #[.int .i64 0,.string ⟨#[]⟩,.int .i64 0,.int .i64 0,.int .i64 0,.bool false,.bool false,.int .i64 0] ((w2.setCell ⟨W.heap.size,4,none⟩ (.int .i64 ev)).setCell ⟨W.heap.size,6,none⟩ (.bool hv)):=by simpa using (i2.put 4 (.int .i64 ev)).put 6 (.bool hv)
        rw[hev,hhv]
        have H3:=hid i3
        clear i2 i3))
   | (go_at_call 36;with_reducible refine (SlI.skip H3.out).mono ?_
      go_must (
        rintro e w4 ⟨rfl,i4⟩
        rw[h3] at i4
        have H4:=hid i4
        clear i4))
   | (go_at_call 15;with_reducible refine (SlI.yes H4.out h58).mono ?_
      go_must (
        rintro e w5 ⟨rfl,i5⟩
        have H5:=hid i5
        clear i5))
   | (go_at_call 36;with_reducible refine (SlI.skip H5.out).mono ?_
      go_must (
        rintro e w6 ⟨rfl,i6⟩
        rw[h4] at i6
        have H6:=hid i6
        clear i6))
   | (go_at_call 68;with_reducible refine (SlI.int H6.out).mono ?_
      go_must (
        rintro e w7 ⟨rfl,i7⟩
        rw[intA_no hn] at i7 ⊢
        have c0:w7.cell? ⟨W.heap.size,0,none⟩=some (.int .i64 3):=i7.at 0
        have cf0:=i7.free 0
        have c1:w7.cell? ⟨W.heap.size,1,none⟩=some (.string ⟨#[]⟩):=i7.at 1
        have cf1:=i7.free 1
        have c2:w7.cell? ⟨W.heap.size,2,none⟩=some (.int .i64 0):=i7.at 2
        have cf2:=i7.free 2
        have c3:w7.cell? ⟨W.heap.size,3,none⟩=some (.int .i64 (a.getD 0)):=i7.at 3
        have cf3:=i7.free 3
        have c4:w7.cell? ⟨W.heap.size,4,none⟩=some (.int .i64 ev):=i7.at 4
        have cf4:=i7.free 4
        have c5:w7.cell? ⟨W.heap.size,5,none⟩=some (.bool a.isSome):=i7.at 5
        have cf5:=i7.free 5
        have c6:w7.cell? ⟨W.heap.size,6,none⟩=some (.bool hv):=i7.at 6
        have cf6:=i7.free 6
        have c7:w7.cell? ⟨W.heap.size,7,none⟩=some (.int .i64 1):=i7.at 7
        have cf7:=i7.free 7
        have d0:w7.cell? ⟨W.heap.size+1,0,none⟩=some (.int .i64 0):=i7.dat 0
        have df0:=i7.dfree 0
        have d1:w7.cell? ⟨W.heap.size+1,1,none⟩=some (.string ⟨#[]⟩):=i7.dat 1
        have df1:=i7.dfree 1
        have d2:w7.cell? ⟨W.heap.size+1,2,none⟩=some (.int .i64 0):=i7.dat 2
        have df2:=i7.dfree 2
        have d3:w7.cell? ⟨W.heap.size+1,3,none⟩=some (.int .i64 0):=i7.dat 3
        have df3:=i7.dfree 3
        have d4:w7.cell? ⟨W.heap.size+1,4,none⟩=some (.int .i64 0):=i7.dat 4
        have df4:=i7.dfree 4
        have d5:w7.cell? ⟨W.heap.size+1,5,none⟩=some (.bool false):=i7.dat 5
        have df5:=i7.dfree 5
        have d6:w7.cell? ⟨W.heap.size+1,6,none⟩=some (.bool false):=i7.dat 6
        have df6:=i7.dfree 6
        have d7:w7.cell? ⟨W.heap.size+1,7,none⟩=some (.int .i64 0):=i7.dat 7
        have df7:=i7.dfree 7
        have H7:=hid i7
        clear i7)))
 have HF:=((((((((H7.out).res 0 (.int .i64 3)).res 1 (.string ⟨#[]⟩)).res 2 (.int .i64 0)).res 3 (.int .i64 (a.getD 0))).res 4 (.int .i64 ev)).res 5 (.bool a.isSome)).res 6 (.bool hv)).res 7 (.int .i64 1)
 simp at HF
 have g0:=HF.dat 0;have g1:=HF.dat 1;have g2:=HF.dat 2;have g3:=HF.dat 3;have g4:=HF.dat 4;have g5:=HF.dat 5;have g6:=HF.dat 6;have g7:=HF.dat 7
 simp at g0 g1 g2 g3 g4 g5 g6 g7
 refine bodyPost_ret (by simp[results,Tryz.results69,go_sem,g0,g1,g2,g3,g4,g5,g6,g7];try rfl) rfl ?_
 exact ⟨rfl,HF.2.2.1⟩
theorem slice_three (b:Nat) (l r2 r3 r4:List UInt8) (W:World) (h:RdR W b l) (hl:l.length≤1000000) (a:Option Int) (ev:Int) (hv:Bool) (h2:(intA (skB l)).2=r2) (hev:(intA (skB l)).1.getD 0=ev) (hhv:(intA (skB l)).1.isSome=hv) (h3:skB r2=r3) (h58:r3.head?=some 58) (h4:skB r3.tail=r4) (sv:Int) (n:Nat) (hn:nrQ r4=some (sv,n)) :
   Calls Tryz.prog 69 #[.pointer (some ⟨b,0,none⟩),.agg #[.int .i64 3,.string ⟨#[]⟩,.int .i64 0,.int .i64 (a.getD 0),.int .i64 0,.bool a.isSome,.bool false,.int .i64 0]] W fun e w'=>e=.returned (.agg #[.int .i64 3,.string ⟨#[]⟩,.int .i64 0,.int .i64 (a.getD 0),.int .i64 ev,.bool a.isSome,.bool hv,.int .i64 sv])∧Went W b (r4.drop n) w':=by
 have H0:=hid (SlI.start h hl #[.int .i64 3,.string ⟨#[]⟩,.int .i64 0,.int .i64 (a.getD 0),.int .i64 0,.bool a.isSome,.bool false,.int .i64 1] selZ)
 unfold selZ at H0
 clear h hl
 go_enter Tryz.func69,Tryz.ntmps69
 go_wp2_with (first
   | (go_at_call 36;with_reducible refine (SlI.skip H0.out).mono ?_
      go_must (
        rintro e w1 ⟨rfl,i1⟩
        have H1:=hid i1
        clear i1))
   | (go_at_call 68;with_reducible refine (SlI.int H1.out).mono ?_
      go_must (
        rintro e w2 ⟨rfl,i2⟩
        rw[h2] at i2
        have c4:w2.cell? ⟨W.heap.size,4,none⟩=some (.int .i64 0):=i2.at 4
        have cf4:=i2.free 4
        have c6:w2.cell? ⟨W.heap.size,6,none⟩=some (.bool false):=i2.at 6
        have cf6:=i2.free 6
        have i3:SlI W b r2 #[.int .i64 3,.string ⟨#[]⟩,.int .i64 0,.int .i64 (a.getD 0),.int .i64 ev,.bool a.isSome,.bool hv,.int .i64 1] #[.int .i64 0,.string ⟨#[]⟩,.int .i64 0,.int .i64 0,.int .i64 0,.bool false,.bool false,.int .i64 0] ((w2.setCell ⟨W.heap.size,4,none⟩ (.int .i64 ev)).setCell ⟨W.heap.size,6,none⟩ (.bool hv)):=by simpa using (i2.put 4 (.int .i64 ev)).put 6 (.bool hv)
        rw[hev,hhv]
        have H3:=hid i3
        clear i2 i3))
   | (go_at_call 36;with_reducible refine (SlI.skip H3.out).mono ?_
      go_must (
        rintro e w4 ⟨rfl,i4⟩
        rw[h3] at i4
        have H4:=hid i4
        clear i4))
   | (go_at_call 15;with_reducible refine (SlI.yes H4.out h58).mono ?_
      go_must (
        rintro e w5 ⟨rfl,i5⟩
        have H5:=hid i5
        clear i5))
   | (go_at_call 36;with_reducible refine (SlI.skip H5.out).mono ?_
      go_must (
        rintro e w6 ⟨rfl,i6⟩
        rw[h4] at i6
        have H6:=hid i6
        clear i6))
   | (go_at_call 68;with_reducible refine (SlI.int H6.out).mono ?_
      go_must (
        rintro e w7 ⟨rfl,i7⟩
        rw[intA_yes hn] at i7 ⊢
        have c0:w7.cell? ⟨W.heap.size,0,none⟩=some (.int .i64 3):=i7.at 0
        have cf0:=i7.free 0
        have c1:w7.cell? ⟨W.heap.size,1,none⟩=some (.string ⟨#[]⟩):=i7.at 1
        have cf1:=i7.free 1
        have c2:w7.cell? ⟨W.heap.size,2,none⟩=some (.int .i64 0):=i7.at 2
        have cf2:=i7.free 2
        have c3:w7.cell? ⟨W.heap.size,3,none⟩=some (.int .i64 (a.getD 0)):=i7.at 3
        have cf3:=i7.free 3
        have c4:w7.cell? ⟨W.heap.size,4,none⟩=some (.int .i64 ev):=i7.at 4
        have cf4:=i7.free 4
        have c5:w7.cell? ⟨W.heap.size,5,none⟩=some (.bool a.isSome):=i7.at 5
        have cf5:=i7.free 5
        have c6:w7.cell? ⟨W.heap.size,6,none⟩=some (.bool hv):=i7.at 6
        have cf6:=i7.free 6
        have c7:w7.cell? ⟨W.heap.size,7,none⟩=some (.int .i64 1):=i7.at 7
        have cf7:=i7.free 7
        have d0:w7.cell? ⟨W.heap.size+1,0,none⟩=some (.int .i64 0):=i7.dat 0
        have df0:=i7.dfree 0
        have d1:w7.cell? ⟨W.heap.size+1,1,none⟩=some (.string ⟨#[]⟩):=i7.dat 1
        have df1:=i7.dfree 1
        have d2:w7.cell? ⟨W.heap.size+1,2,none⟩=some (.int .i64 0):=i7.dat 2
        have df2:=i7.dfree 2
        have d3:w7.cell? ⟨W.heap.size+1,3,none⟩=some (.int .i64 0):=i7.dat 3
        have df3:=i7.dfree 3
        have d4:w7.cell? ⟨W.heap.size+1,4,none⟩=some (.int .i64 0):=i7.dat 4
        have df4:=i7.dfree 4
        have d5:w7.cell? ⟨W.heap.size+1,5,none⟩=some (.bool false):=i7.dat 5
        have df5:=i7.dfree 5
        have d6:w7.cell? ⟨W.heap.size+1,6,none⟩=some (.bool false):=i7.dat 6
        have df6:=i7.dfree 6
        have d7:w7.cell? ⟨W.heap.size+1,7,none⟩=some (.int .i64 0):=i7.dat 7
        have df7:=i7.dfree 7
        have i8:SlI W b (r4.drop n) #[.int .i64 3,.string ⟨#[]⟩,.int .i64 0,.int .i64 (a.getD 0),.int .i64 ev,.bool a.isSome,.bool hv,.int .i64 sv] #[.int .i64 0,.string ⟨#[]⟩,.int .i64 0,.int .i64 0,.int .i64 0,.bool false,.bool false,.int .i64 0] (w7.setCell ⟨W.heap.size,7,none⟩ (.int .i64 sv)):=by simpa using i7.put 7 (.int .i64 sv)
        have H8:=hid i8
        clear i7 i8)))
 have HF:=((((((((H8.out).res 0 (.int .i64 3)).res 1 (.string ⟨#[]⟩)).res 2 (.int .i64 0)).res 3 (.int .i64 (a.getD 0))).res 4 (.int .i64 ev)).res 5 (.bool a.isSome)).res 6 (.bool hv)).res 7 (.int .i64 sv)
 simp at HF
 have g0:=HF.dat 0;have g1:=HF.dat 1;have g2:=HF.dat 2;have g3:=HF.dat 3;have g4:=HF.dat 4;have g5:=HF.dat 5;have g6:=HF.dat 6;have g7:=HF.dat 7
 simp at g0 g1 g2 g3 g4 g5 g6 g7
 refine bodyPost_ret (by simp[results,Tryz.results69,go_sem,g0,g1,g2,g3,g4,g5,g6,g7];try rfl) rfl ?_
 exact ⟨rfl,HF.2.2.1⟩
theorem sl_case (b:Nat) (l:List UInt8) (W:World) (h:RdR W b l) (hl:l.length≤1000000) (a:Option Int) :
   Calls Tryz.prog 69 #[.pointer (some ⟨b,0,none⟩),.agg #[.int .i64 3,.string ⟨#[]⟩,.int .i64 0,.int .i64 (a.getD 0),.int .i64 0,.bool a.isSome,.bool false,.int .i64 0]] W fun e w'=>e=.returned (.agg #[.int .i64 (slcR a l).1.kind,.string (slcR a l).1.name,.int .i64 (slcR a l).1.index,.int .i64 (slcR a l).1.start,.int .i64 (slcR a l).1.en,.bool (slcR a l).1.hs,.bool (slcR a l).1.he,.int .i64 (slcR a l).1.stride])∧Went W b (slcR a l).2 w':=by
 unfold slcR slcE
 by_cases h58:(skB (intA (skB l)).2).head?=some 58
 ·rw[if_pos h58]
  cases hn:nrQ (skB (skB (intA (skB l)).2).tail) with
  | none=>exact slice_two b l _ _ _ W h hl a _ _ rfl rfl rfl rfl h58 rfl hn
  | some p=>exact slice_three b l _ _ _ W h hl a _ _ rfl rfl rfl rfl h58 rfl p.1 p.2 hn
 ·rw[if_neg h58]
  exact slice_no b l _ _ W h hl a _ _ rfl rfl rfl rfl h58
end
end Go.Proofs.YtmgdjlkndbejkaaGreatDoor
