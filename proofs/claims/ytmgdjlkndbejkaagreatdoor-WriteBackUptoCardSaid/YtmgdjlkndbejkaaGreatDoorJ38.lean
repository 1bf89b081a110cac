/- Lemmas. -/
import Derived.Test.YtmgdjlkndbejkaaGreatDoorJ37
set_option maxRecDepth 100000
set_option maxHeartbeats 8000000
set_option linter.unusedVariables false
set_option linter.unusedSimpArgs false
namespace Go.Proofs.YtmgdjlkndbejkaaGreatDoor
open Go.Lib (hid)
section
open Go.RowKit
theorem Went.rd {W w:World}{b:Nat}{l:List UInt8}(h:Went W b l w):RdR w b l:=h.1
def SlE (o:Option (List Sel×List UInt8)) (n:Nat) (b:Nat) (W:World) (e:Ending) (w':World):Prop :=
 ∃ (A:Option Addr) (c:Nat) (ok:Bool) (xs:List Sel) (r:List UInt8),e=.returned (.tuple #[.slice A xs.length c,.bool ok])∧Went W b r w'∧GRow selK w' W.heap.size (.slice A xs.length c) xs∧xs.length≤n∧match o with
   | none=>ok=false
   | some (xs',r')=>ok=true∧xs=xs'∧r=r'
theorem slE_of {l:List UInt8} {b:Nat} {W w':World} {e:Ending} (h:BkEnd l b W e w'):SlE (brkS l) (l.length+1) b W e w':=by
 obtain ⟨v,ok,xs,r,rfl,hw,hr,hl,hm⟩:=h
 obtain ⟨A,c,rfl,_⟩:=hr.form
 exact ⟨A,c,ok,xs,r,rfl,hw,hr,hl,hm⟩
theorem pln_small (l:List UInt8):(⟨(l.take (plnN false l)).toArray⟩:ByteArray).size=plnN false l:=by
 show (l.take (plnN false l)).length=_
 rw[List.length_take]
 exact Nat.min_eq_left (pln_le false l)
theorem short_any (b:Nat) (l:List UInt8) (W:World) (h:RdR W b l) (hl:l.length≤1000000) :
   Calls Tryz.prog 38 #[.pointer (some ⟨b,0,none⟩)] W (SlE (shtR l) (l.length+1) b W):=by
 have HB:=hid h.inside
 have HW:=hid h
 by_cases h42:l.head?=some 42
 ·have HS := hid (show shtR l=some ([sqA],l.tail) from if_pos h42)
  clear h
  go_enter Tryz.func38,Tryz.ntmps38
  go_wp2_with (first
    | (go_at_call 15;with_reducible refine (Went.yes HW.out.same h42).mono ?_
       go_must (
         rintro e w1 ⟨rfl,t1,i1⟩
         have H1:=hid i1
         clear i1 t1)))
  go_ret2
  have hr:=GRow.made (K:=selK) (base:=W.heap.size) (l:=[sqA]) w1 _ rfl (show 1≤maxLen by decide) H1.out.2.2.2.2.1
  exact ⟨_,1,true,[sqA],_,rfl,H1.out.alloc _,hr,by simp,by rw[HS.out];exact ⟨rfl,rfl,rfl⟩⟩
 ·have hps := pln_small l
  by_cases h0:plnN false l=0
  ·have HS := hid (show shtR l=none by unfold shtR;rw[if_neg h42,if_pos h0])
   have hnm:(⟨(l.take (plnN false l)).toArray⟩:ByteArray)=⟨#[]⟩:=by rw[h0];rfl
   have KP:=hid (fun w (h:RdR w b l)=>plain_any b l w h hl)
   rw[hnm] at KP
   generalize l.drop (plnN false l)=r9 at *
   clear h h0 hps hnm
   go_enter Tryz.func38,Tryz.ntmps38
   go_wp2_with (first
     | (go_at_call 15;with_reducible refine (Went.no HW.out.same h42).mono ?_
        go_must (
          rintro e w1 ⟨rfl,t1,i1⟩
          have H1:=hid i1
          clear i1 t1))
     | (go_at_call 55;with_reducible refine (KP.out _ (Went.rd H1.out)).mono ?_
        go_must (
          rintro e w2 ⟨rfl,t2⟩
          have H2:=hid (H1.out.trans t2)
          clear t2)))
   go_ret2
   have hr:=GRow.made (K:=selK) (base:=W.heap.size) (l:=[sqN []]) w2 _ rfl (show 1≤maxLen by decide) H2.out.2.2.2.2.1
   exact ⟨_,1,false,[sqN []],_,rfl,H2.out.alloc _,hr,by simp,by rw[HS.out]⟩
  ·have HS := hid (show shtR l=some ([sqN (l.take (plnN false l))],l.drop (plnN false l)) by unfold shtR;rw[if_neg h42,if_neg h0])
   have KP:=hid (fun w (h:RdR w b l)=>plain_any b l w h hl)
   have hne:=isEmpty_no (⟨(l.take (plnN false l)).toArray⟩:ByteArray) (by rw[hps];exact h0)
   generalize hnm:(⟨(l.take (plnN false l)).toArray⟩:ByteArray)=nm at *
   have HNM:=hid hnm
   generalize hr9:l.drop (plnN false l)=r9 at *
   clear h h0 hps hnm hr9
   go_enter Tryz.func38,Tryz.ntmps38
   go_wp2_with (first
     | (go_at_call 15;with_reducible refine (Went.no HW.out.same h42).mono ?_
        go_must (
          rintro e w1 ⟨rfl,t1,i1⟩
          have H1:=hid i1
          clear i1 t1))
     | (go_at_call 55;with_reducible refine (KP.out _ (Went.rd H1.out)).mono ?_
        go_must (
          rintro e w2 ⟨rfl,t2⟩
          have H2:=hid (H1.out.trans t2)
          clear t2)))
   go_ret2
   have hr:=GRow.made (K:=selK) (base:=W.heap.size) (l:=[sqN (l.take (plnN false l))]) w2 #[.int .i64 0,.string nm,.int .i64 0,.int .i64 0,.int .i64 0,.bool false,.bool false,.int .i64 0] (by rw[← HNM.out];rfl) (show 1≤maxLen by decide) H2.out.2.2.2.2.1
   exact ⟨_,1,true,[sqN (l.take (plnN false l))],_,rfl,H2.out.alloc _,hr,by simp,by rw[HS.out];exact ⟨rfl,rfl,rfl⟩⟩
def SgI (W:World) (b:Nat) (r:List UInt8) (d:Bool) (v:Value) (w:World):Prop :=
 b<W.heap.size∧r.length≤1000000∧Went W b r w∧Own w W.heap.size 33 #[.bool d,v]
section
variable {W w w':World} {b:Nat} {r r':List UInt8} {d:Bool} {v:Value}
theorem SgI.went (h:SgI W b r d v w) (hw:Went w b r' w') (hl:r'.length≤r.length):SgI W b r' d v w' :=
 ⟨h.1,Nat.le_trans hl h.2.1,h.2.2.1.trans hw,Own.turned h.2.2.2 hw.2 (by have:=h.1;omega)⟩
theorem SgI.skip (h:SgI W b r d v w):Calls Tryz.prog 36 #[.pointer (some ⟨b,0,none⟩)] w fun e w'=>e=.returned (.tuple #[])∧SgI W b (skB r) d v w':=by
 refine (skip_any b r w h.2.2.1.1 h.2.1).mono ?_
 rintro e w' ⟨rfl,hw⟩
 exact ⟨rfl,h.went hw (skB_le r)⟩
theorem SgI.yes {c:UInt8} (h:SgI W b r d v w) (hc:r.head?=some c):Calls Tryz.prog 15 #[.pointer (some ⟨b,0,none⟩),.string ⟨#[c]⟩] w fun e w'=>e=.returned (.bool true)∧SgI W b r.tail d v w':=by
 refine (Went.yes h.2.2.1.1.same hc).mono ?_
 rintro e w' ⟨rfl,hw,_⟩
 exact ⟨rfl,h.went hw (by simp)⟩
theorem SgI.no {c:UInt8} (h:SgI W b r d v w) (hc:r.head?≠some c):Calls Tryz.prog 15 #[.pointer (some ⟨b,0,none⟩),.string ⟨#[c]⟩] w fun e w'=>e=.returned (.bool false)∧SgI W b r d v w':=by
 refine (Went.no h.2.2.1.1.same hc).mono ?_
 rintro e w' ⟨rfl,hw,_⟩
 exact ⟨rfl,h.went hw (Nat.le_refl _)⟩
theorem SgI.yes2 {t:List UInt8} {c e:UInt8} (h:SgI W b (c :: e :: t) d v w):Calls Tryz.prog 15 #[.pointer (some ⟨b,0,none⟩),.string ⟨#[c,e]⟩] w fun e w'=>e=.returned (.bool true)∧SgI W b t d v w':=by
 refine (take_two_yes b c e t w h.2.2.1.1).mono ?_
 rintro e w' ⟨rfl,hw⟩
 exact ⟨rfl,h.went hw (by simp<;>omega)⟩
theorem SgI.no2 {c e:UInt8} (h:SgI W b r d v w) (hc:r.take 2≠[c,e]):Calls Tryz.prog 15 #[.pointer (some ⟨b,0,none⟩),.string ⟨#[c,e]⟩] w fun e w'=>e=.returned (.bool false)∧SgI W b r d v w':=by
 refine (take_two_no b c e r w h.2.2.1.1 hc).mono ?_
 rintro e w' ⟨rfl,hw⟩
 exact ⟨rfl,h.went hw (Nat.le_refl _)⟩
theorem setwq {W w:World} {b:Nat} {r:List UInt8} (h:Went W b r w) (hb:b<W.heap.size) (i:Nat) (u:Value):Went W b r (w.setCell ⟨W.heap.size,i,none⟩ u) :=
 ⟨h.1.past (by show b≠W.heap.size;omega) u,by
   have t:=h.2
   refine ⟨t.1,t.2.1,t.2.2.1,by simpa [World.setCell] using t.2.2.2.1,fun k hk hne=>(Below.heap_setCell w ⟨W.heap.size,i,none⟩ u k (by show k≠W.heap.size;omega)).trans (t.2.2.2.2 k hk hne)⟩⟩
theorem SgI.deep (h:SgI W b r d v w) (e:Bool):SgI W b r e v (w.setCell ⟨W.heap.size,0,none⟩ (.bool e)) :=
 ⟨h.1,h.2.1,setwq h.2.2.1 h.1 0 _,by simpa using Own.put h.2.2.2 0 (.bool e)⟩
def SgS (W:World) (b:Nat) (o:Option (List Sel×List UInt8)) (n:Nat) (d:Bool) (v:Value) (A:Option Addr) (c:Nat) (ok:Bool) (xs:List Sel) (w:World):Prop :=
 ∃ r,b<W.heap.size∧Went W b r w∧Own w W.heap.size 33 #[.bool d,v]∧GRow selK w (W.heap.size+1) (.slice A xs.length c) xs∧xs.length≤n∧match o with
   | none=>ok=false
   | some (xs',r')=>ok=true∧xs=xs'∧r=r'
theorem SgI.made {e:Ending} {o:Option (List Sel×List UInt8)} {n:Nat} (h:SgI W b r d v w) (hs:SlE o n b w e w'):∃ A c ok xs,e=.returned (.tuple #[.slice A (List.length xs) c,.bool ok])∧SgS W b o n d v A c ok xs w':=by
 obtain ⟨A,c,ok,xs,r',rfl,hw,hr,hl,hm⟩:=hs
 have hi:=h.2.2.2.inside
 exact ⟨A,c,ok,xs,rfl,r',h.1,h.2.2.1.trans hw,Own.turned h.2.2.2 hw.2 (by have:=h.1;omega),hr.mono (by omega),hl,hm⟩
theorem SgI.selectors (h:SgI W b r d v w):Calls Tryz.prog 37 #[.pointer (some ⟨b,0,none⟩)] w fun e w' => ∃ A c ok xs,e=.returned (.tuple #[.slice A (List.length xs) c,.bool ok])∧SgS W b (brkS r) (r.length+1) d v A c ok xs w' :=
 (selectors_any b r w h.2.2.1.1 h.2.1).mono fun e w' hs=>h.made (slE_of hs)
theorem SgI.short (h:SgI W b r d v w):Calls Tryz.prog 38 #[.pointer (some ⟨b,0,none⟩)] w fun e w' => ∃ A c ok xs,e=.returned (.tuple #[.slice A (List.length xs) c,.bool ok])∧SgS W b (shtR r) (r.length+1) d v A c ok xs w' :=
 (short_any b r w h.2.2.1.1 h.2.1).mono fun e w' hs=>h.made hs
end
theorem SgI.start {W:World} {b:Nat} {r:List UInt8} (h:RdR W b r) (hl:r.length≤1000000):SgI W b r false (.slice none 0 0) (W.alloc (.cells #[.bool false,.slice none 0 0] 33)) :=
 ⟨h.inside,hl,Went.new h (below1 W _),Own.fresh W 33 _⟩
def SmE (l:List UInt8) (b:Nat) (W:World) (e:Ending) (w':World):Prop :=
 ∃ (d:Bool) (A:Option Addr) (c:Nat) (ok:Bool) (xs:List Sel) (r:List UInt8),e=.returned (.tuple #[.agg #[.bool d,.slice A xs.length c],.bool ok])∧Went W b r w'∧GRow selK w' W.heap.size (.slice A xs.length c) xs∧xs.length≤l.length+1∧match sgmP (skB l) with
   | none=>ok=false
   | some (x,r')=>ok=true∧x=⟨d,xs⟩∧r=r'
theorem SmE.of {l:List UInt8} {b n:Nat} {W w w':World} {e:Ending} {o:Option (List Sel×List UInt8)} {d:Bool} {v:Value} {A:Option Addr} {c:Nat} {ok:Bool} {xs:List Sel} (h:SgS W b o n d v A c ok xs w) (hn:n≤l.length+1)
   (ho:sgmP (skB l)=o.map fun p=>(⟨d,p.1⟩,p.2)) (he:e=.returned (.tuple #[.agg #[.bool d,.slice A xs.length c],.bool ok])) (hw':∀ r,Went W b r w→Went W b r w') (hr':GRow selK w (W.heap.size+1) (.slice A xs.length c) xs→GRow selK w' (W.heap.size+1) (.slice A xs.length c) xs):SmE l b W e w':=by
 obtain ⟨r,hb,hw,hown,hr,hl,hm⟩:=h
 refine ⟨d,A,c,ok,xs,r,he,hw' r hw,(hr' hr).mono (by omega),by omega,?_⟩
 rw[ho]
 cases o with
 | none=>exact hm
 | some p=>obtain ⟨h1,h2,h3⟩:=hm;exact ⟨h1,by rw[h2],h3⟩
theorem row_set {w:World} {B:Nat} {v u:Value} {xs:List Sel} (h:GRow selK w (B+1) v xs) (i:Nat):GRow selK (w.setCell ⟨B,i,none⟩ u) (B+1) v xs :=
 h.stay fun g hg=>Below.heap_setCell w ⟨B,i,none⟩ u g (by have:=(h.low hg).1;show g≠B;omega)
theorem seg_deep_brk (b:Nat) (l:List UInt8) (W:World) (h:RdR W b l) (hl:l.length≤1000000) (r:List UInt8) (hdd:skB l=46 :: 46 :: r) (h91:r.head?=some 91) :
   Calls Tryz.prog 16 #[.pointer (some ⟨b,0,none⟩)] W (SmE l b W):=by
 have H0:=hid (SgI.start h hl)
 have hsl:=skB_le l
 have HB:=hid h.inside
 have HS:=hid (show sgmP (skB l)=(brkS r.tail).map fun p=>(⟨true,p.1⟩,p.2) by rw[hdd];unfold sgmP;rw[if_pos (show (46 :: 46 :: r).take 2=[46,46] from rfl),if_pos (show ((46 :: 46 :: r).drop 2).head?=some 91 from h91)];rfl)
 have HN:=hid (show r.tail.length+1≤l.length+1 by rw[hdd] at hsl;simp at hsl ⊢;omega)
 clear hsl
 clear h hl
 go_enter Tryz.func16,Tryz.ntmps16
 go_wp2_with (first
   | (go_at_call 36;with_reducible refine (SgI.skip H0.out).mono ?_
      go_must (
        rintro e w1 ⟨rfl,i1⟩
        rw[hdd] at i1
        have H1:=hid i1
        clear i1))
   | (go_at_call 15;with_reducible refine (SgI.yes2 H1.out).mono ?_
      go_must (
        rintro e w2 ⟨rfl,i2⟩
        have c0:w2.cell? ⟨W.heap.size,0,none⟩=some (.bool false):=i2.2.2.2.at 0
        have f0:=i2.2.2.2.free 0
        have H2:=hid (i2.deep true)
        clear i2))
   | (go_at_call 15;with_reducible refine (SgI.yes H2.out h91).mono ?_
      go_must (
        rintro e w3 ⟨rfl,i3⟩
        have H3:=hid i3
        clear i3))
   | (go_at_call 37;with_reducible refine (SgI.selectors H3.out).mono ?_
      go_must (
        rintro e w4 ⟨A,c,ok,xs,rfl,i4⟩
        have ho:=i4.elim fun _ h=>h.2.2.1
        have a0:w4.cell? ⟨W.heap.size,0,none⟩=some (.bool true):=ho.at 0
        have a1:w4.cell? ⟨W.heap.size,1,none⟩=some (.slice none 0 0):=ho.at 1
        have g0:=ho.free 0
        have g1:=ho.free 1
        have HO:=hid ho
        have H4:=hid i4
        clear i4 ho)))
 have ho:=((HO.out.put 1 (.slice A xs.length c)).put 0 (.bool true)).put 1 (.slice A xs.length c)
 simp at ho
 have z0:=ho.at 0
 have z1:=ho.at 1
 simp at z0 z1
 refine bodyPost_ret (by simp[results,Tryz.results16,go_sem,z0,z1];try rfl) rfl ?_
 exact SmE.of H4.out HN.out HS.out rfl (fun r hw=>setwq (setwq (setwq hw HB.out 1 _) HB.out 0 _) HB.out 1 _) (fun hr=>row_set (row_set (row_set hr 1) 0) 1)
theorem seg_deep_short (b:Nat) (l:List UInt8) (W:World) (h:RdR W b l) (hl:l.length≤1000000) (r:List UInt8) (hdd:skB l=46 :: 46 :: r) (h91:r.head?≠some 91) :
   Calls Tryz.prog 16 #[.pointer (some ⟨b,0,none⟩)] W (SmE l b W):=by
 have H0:=hid (SgI.start h hl)
 have hsl:=skB_le l
 have HB:=hid h.inside
 have HS:=hid (show sgmP (skB l)=(shtR r).map fun p=>(⟨true,p.1⟩,p.2) by rw[hdd];unfold sgmP;rw[if_pos (show (46 :: 46 :: r).take 2=[46,46] from rfl),if_neg (show ¬ ((46 :: 46 :: r).drop 2).head?=some 91 from h91)];rfl)
 have HN:=hid (show r.length+1≤l.length+1 by rw[hdd] at hsl;simp at hsl ⊢;omega)
 clear hsl
 clear h hl
 go_enter Tryz.func16,Tryz.ntmps16
 go_wp2_with (first
   | (go_at_call 36;with_reducible refine (SgI.skip H0.out).mono ?_
      go_must (
        rintro e w1 ⟨rfl,i1⟩
        rw[hdd] at i1
        have H1:=hid i1
        clear i1))
   | (go_at_call 15;with_reducible refine (SgI.yes2 H1.out).mono ?_
      go_must (
        rintro e w2 ⟨rfl,i2⟩
        have c0:w2.cell? ⟨W.heap.size,0,none⟩=some (.bool false):=i2.2.2.2.at 0
        have f0:=i2.2.2.2.free 0
        have H2:=hid (i2.deep true)
        clear i2))
   | (go_at_call 15;with_reducible refine (SgI.no H2.out h91).mono ?_
      go_must (
        rintro e w3 ⟨rfl,i3⟩
        have k0:w3.cell? ⟨W.heap.size,0,none⟩=some (.bool true):=i3.2.2.2.at 0
        have H3:=hid i3
        clear i3))
   | (go_at_call 38;with_reducible refine (SgI.short H3.out).mono ?_
      go_must (
        rintro e w4 ⟨A,c,ok,xs,rfl,i4⟩
        have ho:=i4.elim fun _ h=>h.2.2.1
        have a0:w4.cell? ⟨W.heap.size,0,none⟩=some (.bool true):=ho.at 0
        have a1:w4.cell? ⟨W.heap.size,1,none⟩=some (.slice none 0 0):=ho.at 1
        have g0:=ho.free 0
        have g1:=ho.free 1
        have HO:=hid ho
        have H4:=hid i4
        clear i4 ho)))
 have ho:=((HO.out.put 1 (.slice A xs.length c)).put 0 (.bool true)).put 1 (.slice A xs.length c)
 simp at ho
 have z0:=ho.at 0
 have z1:=ho.at 1
 simp at z0 z1
 refine bodyPost_ret (by simp[results,Tryz.results16,go_sem,z0,z1];try rfl) rfl ?_
 exact SmE.of H4.out HN.out HS.out rfl (fun r hw=>setwq (setwq (setwq hw HB.out 1 _) HB.out 0 _) HB.out 1 _) (fun hr=>row_set (row_set (row_set hr 1) 0) 1)
theorem seg_brk (b:Nat) (l:List UInt8) (W:World) (h:RdR W b l) (hl:l.length≤1000000) (hdd:(skB l).take 2≠[46,46]) (h91:(skB l).head?=some 91) :
   Calls Tryz.prog 16 #[.pointer (some ⟨b,0,none⟩)] W (SmE l b W):=by
 have H0:=hid (SgI.start h hl)
 have hsl:=skB_le l
 have HB:=hid h.inside
 have HS:=hid (show sgmP (skB l)=(brkS (skB l).tail).map fun p=>(⟨false,p.1⟩,p.2) by unfold sgmP;rw[if_neg hdd,if_pos h91])
 have HN:=hid (show (skB l).tail.length+1≤l.length+1 by simp;omega)
 clear hsl
 clear h hl
 go_enter Tryz.func16,Tryz.ntmps16
 go_wp2_with (first
   | (go_at_call 36;with_reducible refine (SgI.skip H0.out).mono ?_
      go_must (
        rintro e w1 ⟨rfl,i1⟩
        have H1:=hid i1
        clear i1))
   | (go_at_call 15;with_reducible refine (SgI.no2 H1.out hdd).mono ?_
      go_must (
        rintro e w2 ⟨rfl,i2⟩
        have c0:w2.cell? ⟨W.heap.size,0,none⟩=some (.bool false):=i2.2.2.2.at 0
        have f0:=i2.2.2.2.free 0
        have H2:=hid (i2.deep false)
        clear i2))
   | (go_at_call 15;with_reducible refine (SgI.yes H2.out h91).mono ?_
      go_must (
        rintro e w3 ⟨rfl,i3⟩
        have H3:=hid i3
        clear i3))
   | (go_at_call 37;with_reducible refine (SgI.selectors H3.out).mono ?_
      go_must (
        rintro e w4 ⟨A,c,ok,xs,rfl,i4⟩
        have ho:=i4.elim fun _ h=>h.2.2.1
        have a0:w4.cell? ⟨W.heap.size,0,none⟩=some (.bool false):=ho.at 0
        have a1:w4.cell? ⟨W.heap.size,1,none⟩=some (.slice none 0 0):=ho.at 1
        have g0:=ho.free 0
        have g1:=ho.free 1
        have HO:=hid ho
        have H4:=hid i4
        clear i4 ho)))
 have ho:=((HO.out.put 1 (.slice A xs.length c)).put 0 (.bool false)).put 1 (.slice A xs.length c)
 simp at ho
 have z0:=ho.at 0
 have z1:=ho.at 1
 simp at z0 z1
 refine bodyPost_ret (by simp[results,Tryz.results16,go_sem,z0,z1];try rfl) rfl ?_
 exact SmE.of H4.out HN.out HS.out rfl (fun r hw=>setwq (setwq (setwq hw HB.out 1 _) HB.out 0 _) HB.out 1 _) (fun hr=>row_set (row_set (row_set hr 1) 0) 1)
theorem seg_short (b:Nat) (l:List UInt8) (W:World) (h:RdR W b l) (hl:l.length≤1000000) (hdd:(skB l).take 2≠[46,46]) (h91:(skB l).head?≠some 91) (h46:(skB l).head?=some 46) :
   Calls Tryz.prog 16 #[.pointer (some ⟨b,0,none⟩)] W (SmE l b W):=by
 have H0:=hid (SgI.start h hl)
 have hsl:=skB_le l
 have HB:=hid h.inside
 have HS:=hid (show sgmP (skB l)=(shtR (skB l).tail).map fun p=>(⟨false,p.1⟩,p.2) by unfold sgmP;rw[if_neg hdd,if_neg h91,if_pos h46])
 have HN:=hid (show (skB l).tail.length+1≤l.length+1 by simp;omega)
 clear hsl
 clear h hl
 go_enter Tryz.func16,Tryz.ntmps16
 go_wp2_with (first
   | (go_at_call 36;with_reducible refine (SgI.skip H0.out).mono ?_
      go_must (
        rintro e w1 ⟨rfl,i1⟩
        have H1:=hid i1
        clear i1))
   | (go_at_call 15;with_reducible refine (SgI.no2 H1.out hdd).mono ?_
      go_must (
        rintro e w2 ⟨rfl,i2⟩
        have c0:w2.cell? ⟨W.heap.size,0,none⟩=some (.bool false):=i2.2.2.2.at 0
        have f0:=i2.2.2.2.free 0
        have H2:=hid (i2.deep false)
        clear i2))
   | (go_at_call 15;with_reducible refine (SgI.no H2.out h91).mono ?_
      go_must (
        rintro e w3 ⟨rfl,i3⟩
        have k0:w3.cell? ⟨W.heap.size,0,none⟩=some (.bool false):=i3.2.2.2.at 0
        have H3:=hid i3
        clear i3))
   | (go_at_call 15;with_reducible refine (SgI.yes H3.out h46).mono ?_
      go_must (
        rintro e w4 ⟨rfl,i4⟩
        have H4:=hid i4
        clear i4))
   | (go_at_call 38;with_reducible refine (SgI.short H4.out).mono ?_
      go_must (
        rintro e w5 ⟨A,c,ok,xs,rfl,i5⟩
        have ho:=i5.elim fun _ h=>h.2.2.1
        have a0:w5.cell? ⟨W.heap.size,0,none⟩=some (.bool false):=ho.at 0
        have a1:w5.cell? ⟨W.heap.size,1,none⟩=some (.slice none 0 0):=ho.at 1
        have g0:=ho.free 0
        have g1:=ho.free 1
        have HO:=hid ho
        have H5:=hid i5
        clear i5 ho)))
 have ho:=((HO.out.put 1 (.slice A xs.length c)).put 0 (.bool false)).put 1 (.slice A xs.length c)
 simp at ho
 have z0:=ho.at 0
 have z1:=ho.at 1
 simp at z0 z1
 refine bodyPost_ret (by simp[results,Tryz.results16,go_sem,z0,z1];try rfl) rfl ?_
 exact SmE.of H5.out HN.out HS.out rfl (fun r hw=>setwq (setwq (setwq hw HB.out 1 _) HB.out 0 _) HB.out 1 _) (fun hr=>row_set (row_set (row_set hr 1) 0) 1)
theorem seg_none (b:Nat) (l:List UInt8) (W:World) (h:RdR W b l) (hl:l.length≤1000000) (hdd:(skB l).take 2≠[46,46]) (h91:(skB l).head?≠some 91) (h46:(skB l).head?≠some 46) :
   Calls Tryz.prog 16 #[.pointer (some ⟨b,0,none⟩)] W (SmE l b W):=by
 have H0:=hid (SgI.start h hl)
 have hsl:=skB_le l
 have HB:=hid h.inside
 have HS:=hid (show sgmP (skB l)=none by unfold sgmP;rw[if_neg hdd,if_neg h91,if_neg h46])
 clear hsl
 clear h hl
 go_enter Tryz.func16,Tryz.ntmps16
 go_wp2_with (first
   | (go_at_call 36;with_reducible refine (SgI.skip H0.out).mono ?_
      go_must (
        rintro e w1 ⟨rfl,i1⟩
        have H1:=hid i1
        clear i1))
   | (go_at_call 15;with_reducible refine (SgI.no2 H1.out hdd).mono ?_
      go_must (
        rintro e w2 ⟨rfl,i2⟩
        have c0:w2.cell? ⟨W.heap.size,0,none⟩=some (.bool false):=i2.2.2.2.at 0
        have f0:=i2.2.2.2.free 0
        have H2:=hid (i2.deep false)
        clear i2))
   | (go_at_call 15;with_reducible refine (SgI.no H2.out h91).mono ?_
      go_must (
        rintro e w3 ⟨rfl,i3⟩
        have k0:w3.cell? ⟨W.heap.size,0,none⟩=some (.bool false):=i3.2.2.2.at 0
        have H3:=hid i3
        clear i3))
   | (go_at_call 15;with_reducible refine (SgI.no H3.out h46).mono ?_
      go_must (
        rintro e w4 ⟨rfl,i4⟩
        have a0:w4.cell? ⟨W.heap.size,0,none⟩=some (.bool false):=i4.2.2.2.at 0
        have a1:w4.cell? ⟨W.heap.size,1,none⟩=some (.slice none 0 0):=i4.2.2.2.at 1
        have g0:=i4.2.2.2.free 0
        have g1:=i4.2.2.2.free 1
        have HO:=hid i4.2.2.2
        have H4:=hid i4
        clear i4)))
 have ho:=(HO.out.put 0 (.bool false)).put 1 (.slice none 0 0)
 simp at ho
 have z0:=ho.at 0
 have z1:=ho.at 1
 simp at z0 z1
 refine bodyPost_ret (by simp[results,Tryz.results16,go_sem,z0,z1];try rfl) rfl ?_
 exact ⟨false,none,0,false,[],_,rfl,setwq (setwq H4.out.2.2.1 HB.out 0 _) HB.out 1 _,GRow.nil _ _,by simp,by rw[HS.out]⟩
theorem segment_any (b:Nat) (l:List UInt8) (W:World) (h:RdR W b l) (hl:l.length≤1000000) :
   Calls Tryz.prog 16 #[.pointer (some ⟨b,0,none⟩)] W (SmE l b W):=by
 by_cases hdd:(skB l).take 2=[46,46]
 ·obtain ⟨r,hr⟩:=two_dots hdd
  by_cases h91:r.head?=some 91
  ·exact seg_deep_brk b l W h hl r hr h91
  ·exact seg_deep_short b l W h hl r hr h91
 by_cases h91:(skB l).head?=some 91
 ·exact seg_brk b l W h hl hdd h91
 by_cases h46:(skB l).head?=some 46
 ·exact seg_short b l W h hl hdd h91 h46
 ·exact seg_none b l W h hl hdd h91 h46
end
end Go.Proofs.YtmgdjlkndbejkaaGreatDoor
