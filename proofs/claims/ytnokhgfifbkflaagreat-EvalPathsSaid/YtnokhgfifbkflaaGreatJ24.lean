/- Lemmas. -/
import Derived.Test.YtnokhgfifbkflaaGreatJ23
set_option maxRecDepth 100000
set_option maxHeartbeats 8000000
set_option linter.unusedVariables false
namespace Go.Proofs.YtnokhgfifbkflaaGreat
open Go.Lib (hid)
section
open Go.RowKit
theorem results_ccR {P:Program} {fn:Func} {p q:Tmp} {ty tz:TypeId} (h:fn.results = #[.cell p ty,.cell q tz]) (tmps:Array Value) (w:World) (g:Nat) (T:TypeId) (cs:Array Value) (fr:Nat×Nat) (d:TypeDesc) (g':Nat) (T':TypeId) (cs':Array Value) (fr':Nat×Nat) (d':TypeDesc)
   (hp:tmps.getD p undef=.pointer (some ⟨g,0,none⟩)) (hg:w.heap[g]?=some (.cells cs T fr)) (hu:P.underlying ty=some d) (hd:(match d with | .struct _ | .array _ _=>true|_=>false)=true) (hi:(P.info? ty).map (·.size)=some cs.size)
   (hp':tmps.getD q undef=.pointer (some ⟨g',0,none⟩)) (hg':w.heap[g']?=some (.cells cs' T' fr')) (hu':P.underlying tz=some d') (hd':(match d' with | .struct _ | .array _ _=>true|_=>false)=true) (hi':(P.info? tz).map (·.size)=some cs'.size) :
   (results fn tmps).run P w=.ok (.tuple #[.agg cs,.agg cs']) w:=by
 have h1:tmps[p]?.getD undef=.pointer (some ⟨g,0,none⟩):=by simpa using hp
 have h2:tmps[q]?.getD undef=.pointer (some ⟨g',0,none⟩):=by simpa using hp'
 simp[results,h,h1,h2,asAddr,run_loadVar_row w g T ty cs fr d hg hu hd hi,run_loadVar_row w g' T' tz cs' fr' d' hg' hu' hd' hi',Result.andThen]
theorem results_ctcR {P:Program} {fn:Func} {t p q:Tmp} {ty tz:TypeId} (h:fn.results = #[.cell p ty,.tmp t,.cell q tz]) (tmps:Array Value) (w:World) (g:Nat) (T:TypeId) (cs:Array Value) (fr:Nat×Nat) (d:TypeDesc) (g':Nat) (T':TypeId) (cs':Array Value) (fr':Nat×Nat) (d':TypeDesc)
   (hp:tmps.getD p undef=.pointer (some ⟨g,0,none⟩)) (hg:w.heap[g]?=some (.cells cs T fr)) (hu:P.underlying ty=some d) (hd:(match d with | .struct _ | .array _ _=>true|_=>false)=true) (hi:(P.info? ty).map (·.size)=some cs.size)
   (hp':tmps.getD q undef=.pointer (some ⟨g',0,none⟩)) (hg':w.heap[g']?=some (.cells cs' T' fr')) (hu':P.underlying tz=some d') (hd':(match d' with | .struct _ | .array _ _=>true|_=>false)=true) (hi':(P.info? tz).map (·.size)=some cs'.size) :
   (results fn tmps).run P w=.ok (.tuple #[.agg cs,tmps.getD t undef,.agg cs']) w:=by
 have h1:tmps[p]?.getD undef=.pointer (some ⟨g,0,none⟩):=by simpa using hp
 have h2:tmps[q]?.getD undef=.pointer (some ⟨g',0,none⟩):=by simpa using hp'
 simp[results,h,h1,h2,asAddr,run_loadVar_row w g T ty cs fr d hg hu hd hi,run_loadVar_row w g' T' tz cs' fr' d' hg' hu' hd' hi',Result.andThen]
theorem own_drewR {w:World}{b:Nat}{T:TypeId}{cs:Array Value}(h:Own w b T cs):Own w.drew b T cs:=h
theorem val_sizeR:(Tryz.prog.info? 29).map (·.size)=some 6:=by kernel_rfl
theorem verd_sizeR:(Tryz.prog.info? 55).map (·.size)=some 2:=by kernel_rfl
def zero6:Array Value:=#[.int .i64 0,.int .i64 0,.int .i64 0,.string ⟨#[]⟩,.slice none 0 0,.slice none 0 0]
def zeroY:V6:=⟨0,0,0,[],none,0,0,none,0,0⟩
def put6R (w:World) (g:Nat) (x:V6):World :=
 (((((w.setCell ⟨g,0,none⟩ (.int .i64 x.kd)).setCell ⟨g,1,none⟩ (.int .i64 x.fr)).setCell ⟨g,2,none⟩ (.int .i64 x.to)).setCell ⟨g,3,none⟩ (.string ⟨x.tx.toArray⟩)).setCell ⟨g,4,none⟩ (.slice x.A x.n x.c)).setCell ⟨g,5,none⟩ (.slice x.B x.m x.d)
def put2R (w:World)(g:Nat)(kd:Int)(p:Nat):World:=(w.setCell ⟨g,0,none⟩ (.int .i64 kd)).setCell ⟨g,1,none⟩ (.int .i64 p)
def putS (w:World)(g:Nat)(x:V6)(kd:Int)(p:Nat):World:=put2R (put6R w g x) (g+1) kd p
theorem six_own {w:World} {g:Nat} {T:TypeId} (h:Own w g T zero6) (x:V6):Own (put6R w g x) g T (v6Cells x).toArray:=by
 have:=(((((h.put 0 (.int .i64 x.kd)).put 1 (.int .i64 x.fr)).put 2 (.int .i64 x.to)).put 3 (.string ⟨x.tx.toArray⟩)).put 4 (.slice x.A x.n x.c)).put 5 (.slice x.B x.m x.d)
 unfold put6R
 simpa [zero6,v6Cells] using this
theorem six_past {w:World} {g b:Nat} {T:TypeId} {cs:Array Value} (h:Own w b T cs) (hb:b≠g) (x:V6):Own (put6R w g x) b T cs :=
 (((((h.past (p:=⟨g,0,none⟩) hb _).past (p:=⟨g,1,none⟩) hb _).past (p:=⟨g,2,none⟩) hb _).past (p:=⟨g,3,none⟩) hb _).past (p:=⟨g,4,none⟩) hb _).past (p:=⟨g,5,none⟩) hb _
theorem two_own {w:World} {g:Nat} {T:TypeId} {x y:Value} (h:Own w g T #[x,y]) (kd:Int) (p:Nat):Own (put2R w g kd p) g T #[.int .i64 kd,.int .i64 p]:=by
 have:=(h.put 0 (.int .i64 kd)).put 1 (.int .i64 (p:Int))
 unfold put2R
 simpa using this
theorem two_past {w:World}{g b:Nat}{T:TypeId}{cs:Array Value}(h:Own w b T cs)(hb:b≠g)(kd:Int)(p:Nat):Own (put2R w g kd p) b T cs:=(h.past (p:=⟨g,0,none⟩) hb _).past (p:=⟨g,1,none⟩) hb _
theorem putS_high {w:World} {g b:Nat} (h:b≠g) (h1:b≠g+1) (x:V6) (kd:Int) (p:Nat):(putS w g x kd p).heap[b]?=w.heap[b]?:=by
 have e:∀ (u:World) (c i:Nat) (v:Value),b≠c→(u.setCell ⟨c,i,none⟩ v).heap[b]?=u.heap[b]?:=fun u c i v hb=>Below.heap_setCell u _ v b hb
 unfold putS put2R put6R
 rw[e _ _ _ _ h1,e _ _ _ _ h1,e _ _ _ _ h,e _ _ _ _ h,e _ _ _ _ h,e _ _ _ _ h,e _ _ _ _ h,e _ _ _ _ h]
theorem putS_size (w:World) (g:Nat) (x:V6) (kd:Int) (p:Nat):(putS w g x kd p).heap.size=w.heap.size:=by
 unfold putS put2R put6R
 simp[World.setCell]
theorem VKept.drew1 {B:Nat}{w:World}{t:Tree}{x:V6}(h:VKept B w.heap.size w t x):VKept B w.drew.heap.size w.drew t x:=h
structure SmX (W w:World) (len:Nat) (gk:Int) (x:V6) (pv:Tree) (E:Nat):Prop where
 o6:Own w W.heap.size 29 zero6
 o8:Own w (W.heap.size+1) 55 #[.int .i64 0,.int .i64 0]
 o9:Own w (W.heap.size+2) 55 #[.int .i64 gk,.int .i64 len]
 bel:Below W.heap.size W w
 kept:VKept (W.heap.size+3) E w pv x
 top:E≤w.heap.size
theorem SmX.done {W w:World} {len:Nat} {gk:Int} {x:V6} {pv:Tree} {E:Nat} (h:SmX W w len gk x pv E) (kd:Int) (p:Nat) :
   Own (putS w W.heap.size x kd p) W.heap.size 29 (v6Cells x).toArray∧Own (putS w W.heap.size x kd p) (W.heap.size+1) 55 #[.int .i64 kd,.int .i64 p] ∧
   VKept W.heap.size (putS w W.heap.size x kd p).heap.size (putS w W.heap.size x kd p) pv x∧Below W.heap.size W (putS w W.heap.size x kd p):=by
 have ht:=h.top
 have p1:Own (putS w W.heap.size x kd p) W.heap.size 29 (v6Cells x).toArray:=by
   unfold putS
   exact two_past (six_own h.o6 x) (by omega) kd p
 have p2:Own (putS w W.heap.size x kd p) (W.heap.size+1) 55 #[.int .i64 kd,.int .i64 p]:=by
   unfold putS
   exact two_own (six_past h.o8 (by omega) x) kd p
 have hs:=putS_size w W.heap.size x kd p
 have hh:∀ b,b≠W.heap.size→b≠W.heap.size+1→(putS w W.heap.size x kd p).heap[b]?=w.heap[b]?:=fun b h1 h2=>putS_high h1 h2 x kd p
 have p3:Below W.heap.size W (putS w W.heap.size x kd p):=by
   unfold putS put2R put6R
   exact (((((((h.bel.setCell (p:=⟨W.heap.size,0,none⟩) (Nat.le_refl _) _).setCell (p:=⟨W.heap.size,1,none⟩) (Nat.le_refl _) _).setCell (p:=⟨W.heap.size,2,none⟩) (Nat.le_refl _) _).setCell (p:=⟨W.heap.size,3,none⟩) (Nat.le_refl _) _).setCell (p:=⟨W.heap.size,4,none⟩) (Nat.le_refl _) _).setCell (p:=⟨W.heap.size,5,none⟩) (Nat.le_refl _) _).setCell (p:=⟨W.heap.size+1,0,none⟩) (Nat.le_succ _) _).setCell (p:=⟨W.heap.size+1,1,none⟩) (Nat.le_succ _) _
 generalize putS w W.heap.size x kd p=wF at p1 p2 p3 hs hh ⊢
 exact ⟨p1,p2,fun u hu=>h.kept u (fun b h1 h2=>(hu b (by omega) (by omega)).trans (hh b (by omega) (by omega))),p3⟩
def SomeEnd (W:World) (r:Tree×Bool×Int×Nat) (e:Ending) (w':World):Prop :=
 ∃ x:V6,e=.returned (.tuple #[.agg (v6Cells x).toArray,.bool r.2.1,.agg #[.int .i64 r.2.2.1,.int .i64 r.2.2.2]])∧VKept W.heap.size w'.heap.size w' r.1 x∧Below W.heap.size W w'
theorem newN_most (d:Nat) (hd:1≤d):(newN (d:Int)).most=d:=by
 unfold newN
 show (if (d:Int)<1 then 1 else (d:Int).toNat)=d
 rw[if_neg (by omega)]
 omega
set_option maxHeartbeats 16000000 in
theorem rSome_et (s:ByteArray) (d:Nat) (hs:s.size≤50000) (hd:1≤d) (hd2:d≤1000) (k0:Nat) (hk0:blankR s.data.toList 0=k0) (hge:s.size≤k0) (W:World) :
   Calls Tryz.prog 39 #[.string s,.int .i64 d,.bool true] W fun e w'=>SomeEnd W (zeroT,false,11,s.size) e w':=by
 have HK:=hid (fun w=>rblank_at s hs 0 k0 0 rfl (Nat.zero_le _) hk0 w)
 clear hk0
 go_enter Tryz.func39,Tryz.ntmps39
 go_upto_region 5 with (
   go_at_call 59
   go_must (
     refine (HK.out _).mono ?_
     rintro e wP ⟨rfl,hwP⟩
     have S:SmX W wP s.size 0 zeroY zeroT 0:=by
       rw[← hwP]
       have b1:=below1 W (.cells zero6 29)
       have b2:=b1.alloc b1.size (.cells #[.int .i64 0,.int .i64 0] 55)
       have b3:=b2.alloc b2.size (.cells #[.int .i64 0,.int .i64 s.size] 55)
       have p2:=Own.fresh (W.alloc (.cells zero6 29)) 55 #[.int .i64 0,.int .i64 0]
       have p3:=Own.fresh ((W.alloc (.cells zero6 29)).alloc (.cells #[.int .i64 0,.int .i64 0] 55)) 55 #[.int .i64 0,.int .i64 s.size]
       simp at p2 p3
       exact ⟨((Own.fresh W 29 zero6).over _).over _,p2.over _,p3,b3,fun u _=>leaf_is u 0 0 0 [],Nat.zero_le _⟩
     clear hwP))
 have h00:=S.o9.free 0
 have h01:=S.o9.at 0
 simp at h01
 go_upto_region 8 with fail
 have S1:SmX W (wP.setCell ⟨W.heap.size+2,0,none⟩ (.int .i64 11)) s.size 11 zeroY zeroT 0 :=
   ⟨S.o6.past (by show W.heap.size≠W.heap.size+2;omega) _,S.o8.past (by show W.heap.size+1≠W.heap.size+2;omega) _,by have:=S.o9.put 0 (.int .i64 11);simpa using this,S.bel.setCell (by show W.heap.size≤W.heap.size+2;omega) _,fun u _=>leaf_is u 0 0 0 [],Nat.zero_le _⟩
 clear h00 h01
 generalize wP.setCell ⟨W.heap.size+2,0,none⟩ (.int .i64 11)=wQ at S1 ⊢
 clear S
 have S:=S1
 clear S1
 have y0:=S.o6.at 0
 have y1:=S.o6.at 1
 have y2:=S.o6.at 2
 have y3:=S.o6.at 3
 have y4:=S.o6.at 4
 have y5:=S.o6.at 5
 simp[zero6] at y0 y1 y2 y3 y4 y5
 have f0:=S.o6.free 0
 have f1:=S.o6.free 1
 have f2:=S.o6.free 2
 have f3:=S.o6.free 3
 have f4:=S.o6.free 4
 have f5:=S.o6.free 5
 have s0:=S.o8.at 0
 have s1:=S.o8.at 1
 simp at s0 s1
 have g0:=S.o8.free 0
 have g1:=S.o8.free 1
 have r0:=S.o9.at 0
 have r1:=S.o9.at 1
 simp at r0 r1
 have h0:=S.o9.free 0
 go_region
 all_goals
   rename_i hK
   obtain ⟨e6,e8,hk,hb⟩:=S.done 11 s.size
   have hk:=hk.drew1
   have Z6:=own_drewR e6
   have Z8:=own_drewR e8
   have hb:=hb.drew
   unfold putS put2R put6R at Z6 Z8 hk hb
   try dsimp only [zeroY] at Z6 Z8 hk hb
   have HZ6:=hid Z6
   have HZ8:=hid Z8
   have HV:=hid hk
   have HT:=hid hb
   clear Z6 Z8 hk hb e6 e8 y0 y1 y2 y3 y4 y5 f0 f1 f2 f3 f4 f5 s0 s1 g0 g1 r0 r1 h0
   refine hK _ _ ?_
   go_wp2
   refine bodyPost_ret (results_ctcR rfl _ _ W.heap.size _ _ (0,0) _ (W.heap.size+1) _ _ (0,0) _ rfl HZ6.out Tryz.underlying29 rfl val_sizeR rfl HZ8.out Tryz.underlying55 rfl verd_sizeR) rfl ?_
   exact ⟨_,rfl,HV.out,HT.out⟩
set_option maxHeartbeats 16000000 in
theorem rSome_ef (s:ByteArray) (d:Nat) (hs:s.size≤50000) (hd:1≤d) (hd2:d≤1000) (k0:Nat) (hk0:blankR s.data.toList 0=k0) (hge:s.size≤k0) (W:World) :
   Calls Tryz.prog 39 #[.string s,.int .i64 d,.bool false] W fun e w'=>SomeEnd W (zeroT,false,0,s.size) e w':=by
 have HK:=hid (fun w=>rblank_at s hs 0 k0 0 rfl (Nat.zero_le _) hk0 w)
 clear hk0
 go_enter Tryz.func39,Tryz.ntmps39
 go_upto_region 5 with (
   go_at_call 59
   go_must (
     refine (HK.out _).mono ?_
     rintro e wP ⟨rfl,hwP⟩
     have S:SmX W wP s.size 0 zeroY zeroT 0:=by
       rw[← hwP]
       have b1:=below1 W (.cells zero6 29)
       have b2:=b1.alloc b1.size (.cells #[.int .i64 0,.int .i64 0] 55)
       have b3:=b2.alloc b2.size (.cells #[.int .i64 0,.int .i64 s.size] 55)
       have p2:=Own.fresh (W.alloc (.cells zero6 29)) 55 #[.int .i64 0,.int .i64 0]
       have p3:=Own.fresh ((W.alloc (.cells zero6 29)).alloc (.cells #[.int .i64 0,.int .i64 0] 55)) 55 #[.int .i64 0,.int .i64 s.size]
       simp at p2 p3
       exact ⟨((Own.fresh W 29 zero6).over _).over _,p2.over _,p3,b3,fun u _=>leaf_is u 0 0 0 [],Nat.zero_le _⟩
     clear hwP))
 go_upto_region 8 with fail
 have y0:=S.o6.at 0
 have y1:=S.o6.at 1
 have y2:=S.o6.at 2
 have y3:=S.o6.at 3
 have y4:=S.o6.at 4
 have y5:=S.o6.at 5
 simp[zero6] at y0 y1 y2 y3 y4 y5
 have f0:=S.o6.free 0
 have f1:=S.o6.free 1
 have f2:=S.o6.free 2
 have f3:=S.o6.free 3
 have f4:=S.o6.free 4
 have f5:=S.o6.free 5
 have s0:=S.o8.at 0
 have s1:=S.o8.at 1
 simp at s0 s1
 have g0:=S.o8.free 0
 have g1:=S.o8.free 1
 have r0:=S.o9.at 0
 have r1:=S.o9.at 1
 simp at r0 r1
 have h0:=S.o9.free 0
 go_region
 all_goals
   rename_i hK
   obtain ⟨e6,e8,hk,hb⟩:=S.done 0 s.size
   have hk:=hk.drew1
   have Z6:=own_drewR e6
   have Z8:=own_drewR e8
   have hb:=hb.drew
   unfold putS put2R put6R at Z6 Z8 hk hb
   try dsimp only [zeroY] at Z6 Z8 hk hb
   have HZ6:=hid Z6
   have HZ8:=hid Z8
   have HV:=hid hk
   have HT:=hid hb
   clear Z6 Z8 hk hb e6 e8 y0 y1 y2 y3 y4 y5 f0 f1 f2 f3 f4 f5 s0 s1 g0 g1 r0 r1 h0
   refine hK _ _ ?_
   go_wp2
   refine bodyPost_ret (results_ctcR rfl _ _ W.heap.size _ _ (0,0) _ (W.heap.size+1) _ _ (0,0) _ rfl HZ6.out Tryz.underlying29 rfl val_sizeR rfl HZ8.out Tryz.underlying55 rfl verd_sizeR) rfl ?_
   exact ⟨_,rfl,HV.out,HT.out⟩
end
section
open Go.RowKit
set_option maxHeartbeats 16000000 in
theorem rSome_t (s:ByteArray) (d:Nat) (hs:s.size≤50000) (hd:1≤d) (hd2:d≤1000) (k0:Nat) (hk0:blankR s.data.toList 0=k0) (hlt:k0<s.size) (pv:Tree) (pb:Bool) (pp:Nat) (pf:Int) (hpp:pp≤s.size)
   (HSM0:∀ w,Calls Tryz.prog 60 #[.string s,.int .i64 k0,.int .i64 d,.bool false] w fun e w'=>PartP w ⟨pv,pb,pp,10⟩ e w')  (W:World) (R:Tree×Bool×Int×Nat) (hR:R=(pv,pb,0,s.size)) :
   Calls Tryz.prog 39 #[.string s,.int .i64 d,.bool false] W fun e w'=>SomeEnd W R e w':=by
 subst hR
 have HK:=hid (fun w=>rblank_at s hs 0 k0 0 rfl (Nat.zero_le _) hk0 w)
 have HSM:=hid HSM0
 clear hk0 HSM0
 go_enter Tryz.func39,Tryz.ntmps39
 go_upto_region 10 with (first
   | (go_at_call 59
      go_must (
        refine (HK.out _).mono ?_
        rintro e wB ⟨rfl,hwB⟩
        have S0:SmX W wB s.size 0 zeroY zeroT 0:=by
          rw[← hwB]
          have b1:=below1 W (.cells zero6 29)
          have b2:=b1.alloc b1.size (.cells #[.int .i64 0,.int .i64 0] 55)
          have b3:=b2.alloc b2.size (.cells #[.int .i64 0,.int .i64 s.size] 55)
          have p2:=Own.fresh (W.alloc (.cells zero6 29)) 55 #[.int .i64 0,.int .i64 0]
          have p3:=Own.fresh ((W.alloc (.cells zero6 29)).alloc (.cells #[.int .i64 0,.int .i64 0] 55)) 55 #[.int .i64 0,.int .i64 s.size]
          simp at p2 p3
          exact ⟨((Own.fresh W 29 zero6).over _).over _,p2.over _,p3,b3,fun u _=>leaf_is u 0 0 0 [],Nat.zero_le _⟩
        clear hwB
        have HS0:=hid S0
        clear S0))
   | (go_at_call 60
      go_must (
        refine (HSM.out _).mono ?_
        rintro e w3 ⟨x,rfl,hk3,hb3⟩
        have S0:=HS0.out
        have hin:=S0.o9.inside
        have b4:=below1 w3 (.cells #[.int .i64 x.kd,.int .i64 x.fr,.int .i64 x.to,.string ⟨x.tx.toArray⟩,.slice x.A x.n x.c,.slice x.B x.m x.d,.bool pb,.int .i64 pp,.int .i64 10] 125)
        have SP:SmX W (w3.alloc (.cells #[.int .i64 x.kd,.int .i64 x.fr,.int .i64 x.to,.string ⟨x.tx.toArray⟩,.slice x.A x.n x.c,.slice x.B x.m x.d,.bool pb,.int .i64 pp,.int .i64 10] 125)) s.size 0 x pv w3.heap.size :=
          ⟨(S0.o6.stay hb3 S0.o6.inside).over _,(S0.o8.stay hb3 S0.o8.inside).over _,(S0.o9.stay hb3 S0.o9.inside).over _,(S0.bel.trans (hb3.mono S0.bel.size)).trans (b4.mono (Nat.le_trans S0.bel.size hb3.size)),
           fun u hu=>hk3 u (fun b h1 h2=>(hu b (by omega) h2).trans (b4.block b h2)),b4.size⟩
        have OP:=Own.fresh w3 125 #[.int .i64 x.kd,.int .i64 x.fr,.int .i64 x.to,.string ⟨x.tx.toArray⟩,.slice x.A x.n x.c,.slice x.B x.m x.d,.bool pb,.int .i64 pp,.int .i64 10]
        have hq:W.heap.size+3≤w3.heap.size:=Nat.le_trans hin hb3.size
        clear S0 hin b4 hk3 hb3)))
 change Code.wp _ _ _ _ (w3.alloc (.cells #[.int .i64 x.kd,.int .i64 x.fr,.int .i64 x.to,.string ⟨x.tx.toArray⟩,.slice x.A x.n x.c,.slice x.B x.m x.d,.bool pb,.int .i64 pp,.int .i64 10] 125))
 generalize w3.alloc (.cells #[.int .i64 x.kd,.int .i64 x.fr,.int .i64 x.to,.string ⟨x.tx.toArray⟩,.slice x.A x.n x.c,.slice x.B x.m x.d,.bool pb,.int .i64 pp,.int .i64 10] 125)=wP at SP OP ⊢
 generalize w3.heap.size=q at SP OP hq ⊢
 have S:=SP
 clear SP HS0 HK HSM
 have q0:=OP.at 0
 have q1:=OP.at 1
 have q2:=OP.at 2
 have q3:=OP.at 3
 have q4:=OP.at 4
 have q5:=OP.at 5
 have q6:=OP.at 6
 have q7:=OP.at 7
 have q8:=OP.at 8
 simp at q0 q1 q2 q3 q4 q5 q6 q7 q8
 have n1:¬ q=W.heap.size:=by omega
 have n2:¬ q=W.heap.size+1:=by omega
 have n3:¬ q=W.heap.size+2:=by omega
 have n4:¬ W.heap.size=q:=by omega
 have n5:¬ W.heap.size+1=q:=by omega
 have n6:¬ W.heap.size+2=q:=by omega
 have y0:=S.o6.at 0
 have y1:=S.o6.at 1
 have y2:=S.o6.at 2
 have y3:=S.o6.at 3
 have y4:=S.o6.at 4
 have y5:=S.o6.at 5
 simp[zero6] at y0 y1 y2 y3 y4 y5
 have f0:=S.o6.free 0
 have f1:=S.o6.free 1
 have f2:=S.o6.free 2
 have f3:=S.o6.free 3
 have f4:=S.o6.free 4
 have f5:=S.o6.free 5
 have s0:=S.o8.at 0
 have s1:=S.o8.at 1
 simp at s0 s1
 have g0:=S.o8.free 0
 have g1:=S.o8.free 1
 have r0:=S.o9.at 0
 have r1:=S.o9.at 1
 simp at r0 r1
 have h0:=S.o9.free 0
 go_upto_region 11 with fail
 go_region
 all_goals
   rename_i hK
   obtain ⟨e6,e8,hk,hb⟩:=S.done 0 s.size
   have hk:=hk.drew1
   have Z6:=own_drewR e6
   have Z8:=own_drewR e8
   have hb:=hb.drew
   unfold putS put2R put6R at Z6 Z8 hk hb
   try dsimp only [zeroY] at Z6 Z8 hk hb
   have HZ6:=hid Z6
   have HZ8:=hid Z8
   have HV:=hid hk
   have HT:=hid hb
   clear Z6 Z8 hk hb e6 e8 y0 y1 y2 y3 y4 y5 f0 f1 f2 f3 f4 f5 s0 s1 g0 g1 r0 r1 h0 q0 q1 q2 q3 q4 q5 q6 q7 q8 n1 n2 n3 n4 n5 n6
   refine hK _ _ ?_
   go_wp2
   refine bodyPost_ret (results_ctcR rfl _ _ W.heap.size _ _ (0,0) _ (W.heap.size+1) _ _ (0,0) _ rfl HZ6.out Tryz.underlying29 rfl val_sizeR rfl HZ8.out Tryz.underlying55 rfl verd_sizeR) rfl ?_
   exact ⟨_,rfl,HV.out,HT.out⟩
set_option maxHeartbeats 16000000 in
theorem rSome_f (s:ByteArray) (d:Nat) (hs:s.size≤50000) (hd:1≤d) (hd2:d≤1000) (k0:Nat) (hk0:blankR s.data.toList 0=k0) (hlt:k0<s.size) (pv:Tree) (pb:Bool) (pp:Nat) (pf:Int) (hpp:pp≤s.size) (cl:Bool)
   (HSM0:∀ w,Calls Tryz.prog 60 #[.string s,.int .i64 k0,.int .i64 d,.bool cl] w fun e w'=>PartP w ⟨pv,pb,pp,pf⟩ e w') (h0:(pf != 0)=true) (h1:(pf==10)=false) (W:World) (R:Tree×Bool×Int×Nat) (hR:R=(pv,pb,pf,pp)) :
   Calls Tryz.prog 39 #[.string s,.int .i64 d,.bool cl] W fun e w'=>SomeEnd W R e w':=by
 subst hR
 have HK:=hid (fun w=>rblank_at s hs 0 k0 0 rfl (Nat.zero_le _) hk0 w)
 have HSM:=hid HSM0
 clear hk0 HSM0
 go_enter Tryz.func39,Tryz.ntmps39
 go_upto_region 10 with (first
   | (go_at_call 59
      go_must (
        refine (HK.out _).mono ?_
        rintro e wB ⟨rfl,hwB⟩
        have S0:SmX W wB s.size 0 zeroY zeroT 0:=by
          rw[← hwB]
          have b1:=below1 W (.cells zero6 29)
          have b2:=b1.alloc b1.size (.cells #[.int .i64 0,.int .i64 0] 55)
          have b3:=b2.alloc b2.size (.cells #[.int .i64 0,.int .i64 s.size] 55)
          have p2:=Own.fresh (W.alloc (.cells zero6 29)) 55 #[.int .i64 0,.int .i64 0]
          have p3:=Own.fresh ((W.alloc (.cells zero6 29)).alloc (.cells #[.int .i64 0,.int .i64 0] 55)) 55 #[.int .i64 0,.int .i64 s.size]
          simp at p2 p3
          exact ⟨((Own.fresh W 29 zero6).over _).over _,p2.over _,p3,b3,fun u _=>leaf_is u 0 0 0 [],Nat.zero_le _⟩
        clear hwB
        have HS0:=hid S0
        clear S0))
   | (go_at_call 60
      go_must (
        refine (HSM.out _).mono ?_
        rintro e w3 ⟨x,rfl,hk3,hb3⟩
        have S0:=HS0.out
        have hin:=S0.o9.inside
        have b4:=below1 w3 (.cells #[.int .i64 x.kd,.int .i64 x.fr,.int .i64 x.to,.string ⟨x.tx.toArray⟩,.slice x.A x.n x.c,.slice x.B x.m x.d,.bool pb,.int .i64 pp,.int .i64 pf] 125)
        have SP:SmX W (w3.alloc (.cells #[.int .i64 x.kd,.int .i64 x.fr,.int .i64 x.to,.string ⟨x.tx.toArray⟩,.slice x.A x.n x.c,.slice x.B x.m x.d,.bool pb,.int .i64 pp,.int .i64 pf] 125)) s.size 0 x pv w3.heap.size :=
          ⟨(S0.o6.stay hb3 S0.o6.inside).over _,(S0.o8.stay hb3 S0.o8.inside).over _,(S0.o9.stay hb3 S0.o9.inside).over _,(S0.bel.trans (hb3.mono S0.bel.size)).trans (b4.mono (Nat.le_trans S0.bel.size hb3.size)),
           fun u hu=>hk3 u (fun b h1 h2=>(hu b (by omega) h2).trans (b4.block b h2)),b4.size⟩
        have OP:=Own.fresh w3 125 #[.int .i64 x.kd,.int .i64 x.fr,.int .i64 x.to,.string ⟨x.tx.toArray⟩,.slice x.A x.n x.c,.slice x.B x.m x.d,.bool pb,.int .i64 pp,.int .i64 pf]
        have hq:W.heap.size+3≤w3.heap.size:=Nat.le_trans hin hb3.size
        clear S0 hin b4 hk3 hb3)))
 change Code.wp _ _ _ _ (w3.alloc (.cells #[.int .i64 x.kd,.int .i64 x.fr,.int .i64 x.to,.string ⟨x.tx.toArray⟩,.slice x.A x.n x.c,.slice x.B x.m x.d,.bool pb,.int .i64 pp,.int .i64 pf] 125))
 generalize w3.alloc (.cells #[.int .i64 x.kd,.int .i64 x.fr,.int .i64 x.to,.string ⟨x.tx.toArray⟩,.slice x.A x.n x.c,.slice x.B x.m x.d,.bool pb,.int .i64 pp,.int .i64 pf] 125)=wP at SP OP ⊢
 generalize w3.heap.size=q at SP OP hq ⊢
 have S:=SP
 clear SP HS0 HK HSM
 have q0:=OP.at 0
 have q1:=OP.at 1
 have q2:=OP.at 2
 have q3:=OP.at 3
 have q4:=OP.at 4
 have q5:=OP.at 5
 have q6:=OP.at 6
 have q7:=OP.at 7
 have q8:=OP.at 8
 simp at q0 q1 q2 q3 q4 q5 q6 q7 q8
 have n1:¬ q=W.heap.size:=by omega
 have n2:¬ q=W.heap.size+1:=by omega
 have n3:¬ q=W.heap.size+2:=by omega
 have n4:¬ W.heap.size=q:=by omega
 have n5:¬ W.heap.size+1=q:=by omega
 have n6:¬ W.heap.size+2=q:=by omega
 have y0:=S.o6.at 0
 have y1:=S.o6.at 1
 have y2:=S.o6.at 2
 have y3:=S.o6.at 3
 have y4:=S.o6.at 4
 have y5:=S.o6.at 5
 simp[zero6] at y0 y1 y2 y3 y4 y5
 have f0:=S.o6.free 0
 have f1:=S.o6.free 1
 have f2:=S.o6.free 2
 have f3:=S.o6.free 3
 have f4:=S.o6.free 4
 have f5:=S.o6.free 5
 have s0:=S.o8.at 0
 have s1:=S.o8.at 1
 simp at s0 s1
 have g0:=S.o8.free 0
 have g1:=S.o8.free 1
 have r0:=S.o9.at 0
 have r1:=S.o9.at 1
 simp at r0 r1
 have h0:=S.o9.free 0
 go_upto_region 13 with fail
 go_region
 all_goals
   rename_i hK
   obtain ⟨e6,e8,hk,hb⟩:=S.done pf pp
   have hk:=hk.drew1
   have Z6:=own_drewR e6
   have Z8:=own_drewR e8
   have hb:=hb.drew
   unfold putS put2R put6R at Z6 Z8 hk hb
   try dsimp only [zeroY] at Z6 Z8 hk hb
   have HZ6:=hid Z6
   have HZ8:=hid Z8
   have HV:=hid hk
   have HT:=hid hb
   clear Z6 Z8 hk hb e6 e8 y0 y1 y2 y3 y4 y5 f0 f1 f2 f3 f4 f5 s0 s1 g0 g1 r0 r1 h0 q0 q1 q2 q3 q4 q5 q6 q7 q8 n1 n2 n3 n4 n5 n6
   refine hK _ _ ?_
   go_wp2
   refine bodyPost_ret (results_ctcR rfl _ _ W.heap.size _ _ (0,0) _ (W.heap.size+1) _ _ (0,0) _ rfl HZ6.out Tryz.underlying29 rfl val_sizeR rfl HZ8.out Tryz.underlying55 rfl verd_sizeR) rfl ?_
   exact ⟨_,rfl,HV.out,HT.out⟩
set_option maxHeartbeats 16000000 in
theorem rSome_g (s:ByteArray) (d:Nat) (hs:s.size≤50000) (hd:1≤d) (hd2:d≤1000) (k0:Nat) (hk0:blankR s.data.toList 0=k0) (hlt:k0<s.size) (pv:Tree) (pb:Bool) (pp:Nat) (pf:Int) (hpp:pp≤s.size)
   (HSM0:∀ w,Calls Tryz.prog 60 #[.string s,.int .i64 k0,.int .i64 d,.bool true] w fun e w'=>PartP w ⟨pv,pb,pp,10⟩ e w')  (W:World) (R:Tree×Bool×Int×Nat) (hR:R=(pv,pb,10,pp)) :
   Calls Tryz.prog 39 #[.string s,.int .i64 d,.bool true] W fun e w'=>SomeEnd W R e w':=by
 subst hR
 have HK:=hid (fun w=>rblank_at s hs 0 k0 0 rfl (Nat.zero_le _) hk0 w)
 have HSM:=hid HSM0
 clear hk0 HSM0
 go_enter Tryz.func39,Tryz.ntmps39
 go_upto_region 10 with (first
   | (go_at_call 59
      go_must (
        refine (HK.out _).mono ?_
        rintro e wB ⟨rfl,hwB⟩
        have S0:SmX W wB s.size 0 zeroY zeroT 0:=by
          rw[← hwB]
          have b1:=below1 W (.cells zero6 29)
          have b2:=b1.alloc b1.size (.cells #[.int .i64 0,.int .i64 0] 55)
          have b3:=b2.alloc b2.size (.cells #[.int .i64 0,.int .i64 s.size] 55)
          have p2:=Own.fresh (W.alloc (.cells zero6 29)) 55 #[.int .i64 0,.int .i64 0]
          have p3:=Own.fresh ((W.alloc (.cells zero6 29)).alloc (.cells #[.int .i64 0,.int .i64 0] 55)) 55 #[.int .i64 0,.int .i64 s.size]
          simp at p2 p3
          exact ⟨((Own.fresh W 29 zero6).over _).over _,p2.over _,p3,b3,fun u _=>leaf_is u 0 0 0 [],Nat.zero_le _⟩
        clear hwB
        have HS0:=hid S0
        clear S0))
   | (go_at_call 60
      go_must (
        refine (HSM.out _).mono ?_
        rintro e w3 ⟨x,rfl,hk3,hb3⟩
        have S0:=HS0.out
        have hin:=S0.o9.inside
        have b4:=below1 w3 (.cells #[.int .i64 x.kd,.int .i64 x.fr,.int .i64 x.to,.string ⟨x.tx.toArray⟩,.slice x.A x.n x.c,.slice x.B x.m x.d,.bool pb,.int .i64 pp,.int .i64 10] 125)
        have SP:SmX W (w3.alloc (.cells #[.int .i64 x.kd,.int .i64 x.fr,.int .i64 x.to,.string ⟨x.tx.toArray⟩,.slice x.A x.n x.c,.slice x.B x.m x.d,.bool pb,.int .i64 pp,.int .i64 10] 125)) s.size 0 x pv w3.heap.size :=
          ⟨(S0.o6.stay hb3 S0.o6.inside).over _,(S0.o8.stay hb3 S0.o8.inside).over _,(S0.o9.stay hb3 S0.o9.inside).over _,(S0.bel.trans (hb3.mono S0.bel.size)).trans (b4.mono (Nat.le_trans S0.bel.size hb3.size)),
           fun u hu=>hk3 u (fun b h1 h2=>(hu b (by omega) h2).trans (b4.block b h2)),b4.size⟩
        have OP:=Own.fresh w3 125 #[.int .i64 x.kd,.int .i64 x.fr,.int .i64 x.to,.string ⟨x.tx.toArray⟩,.slice x.A x.n x.c,.slice x.B x.m x.d,.bool pb,.int .i64 pp,.int .i64 10]
        have hq:W.heap.size+3≤w3.heap.size:=Nat.le_trans hin hb3.size
        clear S0 hin b4 hk3 hb3)))
 change Code.wp _ _ _ _ (w3.alloc (.cells #[.int .i64 x.kd,.int .i64 x.fr,.int .i64 x.to,.string ⟨x.tx.toArray⟩,.slice x.A x.n x.c,.slice x.B x.m x.d,.bool pb,.int .i64 pp,.int .i64 10] 125))
 generalize w3.alloc (.cells #[.int .i64 x.kd,.int .i64 x.fr,.int .i64 x.to,.string ⟨x.tx.toArray⟩,.slice x.A x.n x.c,.slice x.B x.m x.d,.bool pb,.int .i64 pp,.int .i64 10] 125)=wP at SP OP ⊢
 generalize w3.heap.size=q at SP OP hq ⊢
 have S:=SP
 clear SP HS0 HK HSM
 have q0:=OP.at 0
 have q1:=OP.at 1
 have q2:=OP.at 2
 have q3:=OP.at 3
 have q4:=OP.at 4
 have q5:=OP.at 5
 have q6:=OP.at 6
 have q7:=OP.at 7
 have q8:=OP.at 8
 simp at q0 q1 q2 q3 q4 q5 q6 q7 q8
 have n1:¬ q=W.heap.size:=by omega
 have n2:¬ q=W.heap.size+1:=by omega
 have n3:¬ q=W.heap.size+2:=by omega
 have n4:¬ W.heap.size=q:=by omega
 have n5:¬ W.heap.size+1=q:=by omega
 have n6:¬ W.heap.size+2=q:=by omega
 have y0:=S.o6.at 0
 have y1:=S.o6.at 1
 have y2:=S.o6.at 2
 have y3:=S.o6.at 3
 have y4:=S.o6.at 4
 have y5:=S.o6.at 5
 simp[zero6] at y0 y1 y2 y3 y4 y5
 have f0:=S.o6.free 0
 have f1:=S.o6.free 1
 have f2:=S.o6.free 2
 have f3:=S.o6.free 3
 have f4:=S.o6.free 4
 have f5:=S.o6.free 5
 have s0:=S.o8.at 0
 have s1:=S.o8.at 1
 simp at s0 s1
 have g0:=S.o8.free 0
 have g1:=S.o8.free 1
 have r0:=S.o9.at 0
 have r1:=S.o9.at 1
 simp at r0 r1
 have h0:=S.o9.free 0
 go_upto_region 13 with fail
 go_region
 all_goals
   rename_i hK
   obtain ⟨e6,e8,hk,hb⟩:=S.done 10 pp
   have hk:=hk.drew1
   have Z6:=own_drewR e6
   have Z8:=own_drewR e8
   have hb:=hb.drew
   unfold putS put2R put6R at Z6 Z8 hk hb
   try dsimp only [zeroY] at Z6 Z8 hk hb
   have HZ6:=hid Z6
   have HZ8:=hid Z8
   have HV:=hid hk
   have HT:=hid hb
   clear Z6 Z8 hk hb e6 e8 y0 y1 y2 y3 y4 y5 f0 f1 f2 f3 f4 f5 s0 s1 g0 g1 r0 r1 h0 q0 q1 q2 q3 q4 q5 q6 q7 q8 n1 n2 n3 n4 n5 n6
   refine hK _ _ ?_
   go_wp2
   refine bodyPost_ret (results_ctcR rfl _ _ W.heap.size _ _ (0,0) _ (W.heap.size+1) _ _ (0,0) _ rfl HZ6.out Tryz.underlying29 rfl val_sizeR rfl HZ8.out Tryz.underlying55 rfl verd_sizeR) rfl ?_
   exact ⟨_,rfl,HV.out,HT.out⟩
end
section
open Go.RowKit
set_option maxHeartbeats 16000000 in
theorem rSome_r (s:ByteArray) (d:Nat) (hs:s.size≤50000) (hd:1≤d) (hd2:d≤1000) (k0:Nat) (hk0:blankR s.data.toList 0=k0) (hlt:k0<s.size) (pv:Tree) (pb:Bool) (pp:Nat) (pf:Int) (hpp:pp≤s.size) (cl:Bool)
   (HSM0:∀ w,Calls Tryz.prog 60 #[.string s,.int .i64 k0,.int .i64 d,.bool cl] w fun e w'=>PartP w ⟨pv,true,pp,0⟩ e w') (k1:Nat) (hk1:blankR s.data.toList pp=k1) (hl1:k1<s.size) (W:World) (R:Tree×Bool×Int×Nat) (hR:R=(pv,true,9,k1)) :
   Calls Tryz.prog 39 #[.string s,.int .i64 d,.bool cl] W fun e w'=>SomeEnd W R e w':=by
 subst hR
 have HK:=hid (fun w=>rblank_at s hs 0 k0 0 rfl (Nat.zero_le _) hk0 w)
 have HSM:=hid HSM0
 clear hk0 HSM0
 have HK1:=hid (fun w=>rblank_at s hs pp k1 pp rfl hpp hk1 w)
 clear hk1
 go_enter Tryz.func39,Tryz.ntmps39
 go_upto_region 10 with (first
   | (go_at_call 59
      go_must (
        refine (HK.out _).mono ?_
        rintro e wB ⟨rfl,hwB⟩
        have S0:SmX W wB s.size 0 zeroY zeroT 0:=by
          rw[← hwB]
          have b1:=below1 W (.cells zero6 29)
          have b2:=b1.alloc b1.size (.cells #[.int .i64 0,.int .i64 0] 55)
          have b3:=b2.alloc b2.size (.cells #[.int .i64 0,.int .i64 s.size] 55)
          have p2:=Own.fresh (W.alloc (.cells zero6 29)) 55 #[.int .i64 0,.int .i64 0]
          have p3:=Own.fresh ((W.alloc (.cells zero6 29)).alloc (.cells #[.int .i64 0,.int .i64 0] 55)) 55 #[.int .i64 0,.int .i64 s.size]
          simp at p2 p3
          exact ⟨((Own.fresh W 29 zero6).over _).over _,p2.over _,p3,b3,fun u _=>leaf_is u 0 0 0 [],Nat.zero_le _⟩
        clear hwB
        have HS0:=hid S0
        clear S0))
   | (go_at_call 60
      go_must (
        refine (HSM.out _).mono ?_
        rintro e w3 ⟨x,rfl,hk3,hb3⟩
        have S0:=HS0.out
        have hin:=S0.o9.inside
        have b4:=below1 w3 (.cells #[.int .i64 x.kd,.int .i64 x.fr,.int .i64 x.to,.string ⟨x.tx.toArray⟩,.slice x.A x.n x.c,.slice x.B x.m x.d,.bool true,.int .i64 pp,.int .i64 0] 125)
        have SP:SmX W (w3.alloc (.cells #[.int .i64 x.kd,.int .i64 x.fr,.int .i64 x.to,.string ⟨x.tx.toArray⟩,.slice x.A x.n x.c,.slice x.B x.m x.d,.bool true,.int .i64 pp,.int .i64 0] 125)) s.size 0 x pv w3.heap.size :=
          ⟨(S0.o6.stay hb3 S0.o6.inside).over _,(S0.o8.stay hb3 S0.o8.inside).over _,(S0.o9.stay hb3 S0.o9.inside).over _,(S0.bel.trans (hb3.mono S0.bel.size)).trans (b4.mono (Nat.le_trans S0.bel.size hb3.size)),
           fun u hu=>hk3 u (fun b h1 h2=>(hu b (by omega) h2).trans (b4.block b h2)),b4.size⟩
        have OP:=Own.fresh w3 125 #[.int .i64 x.kd,.int .i64 x.fr,.int .i64 x.to,.string ⟨x.tx.toArray⟩,.slice x.A x.n x.c,.slice x.B x.m x.d,.bool true,.int .i64 pp,.int .i64 0]
        have hq:W.heap.size+3≤w3.heap.size:=Nat.le_trans hin hb3.size
        clear S0 hin b4 hk3 hb3)))
 change Code.wp _ _ _ _ (w3.alloc (.cells #[.int .i64 x.kd,.int .i64 x.fr,.int .i64 x.to,.string ⟨x.tx.toArray⟩,.slice x.A x.n x.c,.slice x.B x.m x.d,.bool true,.int .i64 pp,.int .i64 0] 125))
 generalize w3.alloc (.cells #[.int .i64 x.kd,.int .i64 x.fr,.int .i64 x.to,.string ⟨x.tx.toArray⟩,.slice x.A x.n x.c,.slice x.B x.m x.d,.bool true,.int .i64 pp,.int .i64 0] 125)=wP at SP OP ⊢
 generalize w3.heap.size=q at SP OP hq ⊢
 have S:=SP
 clear SP HS0 HK HSM
 have q0:=OP.at 0
 have q1:=OP.at 1
 have q2:=OP.at 2
 have q3:=OP.at 3
 have q4:=OP.at 4
 have q5:=OP.at 5
 have q6:=OP.at 6
 have q7:=OP.at 7
 have q8:=OP.at 8
 simp at q0 q1 q2 q3 q4 q5 q6 q7 q8
 have n1:¬ q=W.heap.size:=by omega
 have n2:¬ q=W.heap.size+1:=by omega
 have n3:¬ q=W.heap.size+2:=by omega
 have n4:¬ W.heap.size=q:=by omega
 have n5:¬ W.heap.size+1=q:=by omega
 have n6:¬ W.heap.size+2=q:=by omega
 have y0:=S.o6.at 0
 have y1:=S.o6.at 1
 have y2:=S.o6.at 2
 have y3:=S.o6.at 3
 have y4:=S.o6.at 4
 have y5:=S.o6.at 5
 simp[zero6] at y0 y1 y2 y3 y4 y5
 have f0:=S.o6.free 0
 have f1:=S.o6.free 1
 have f2:=S.o6.free 2
 have f3:=S.o6.free 3
 have f4:=S.o6.free 4
 have f5:=S.o6.free 5
 have s0:=S.o8.at 0
 have s1:=S.o8.at 1
 simp at s0 s1
 have g0:=S.o8.free 0
 have g1:=S.o8.free 1
 have r0:=S.o9.at 0
 have r1:=S.o9.at 1
 simp at r0 r1
 have h0:=S.o9.free 0
 go_upto_region 16 with (go_at_call 59;refine (HK1.out _).mono ?_;rintro e w' ⟨rfl,rfl⟩)
 obtain ⟨e6,e8,hk,hb⟩:=S.done 9 k1
 unfold putS put2R put6R at e6 e8 hk hb
 have HZ6:=hid e6
 have HZ8:=hid e8
 have HV:=hid hk
 have HT:=hid hb
 clear e6 e8 hk hb
 go_wp2
 refine bodyPost_ret (results_ctcR rfl _ _ W.heap.size _ _ (0,0) _ (W.heap.size+1) _ _ (0,0) _ rfl HZ6.out Tryz.underlying29 rfl val_sizeR rfl HZ8.out Tryz.underlying55 rfl verd_sizeR) rfl ?_
 exact ⟨_,rfl,HV.out,HT.out⟩
set_option maxHeartbeats 16000000 in
theorem rSome_a (s:ByteArray) (d:Nat) (hs:s.size≤50000) (hd:1≤d) (hd2:d≤1000) (k0:Nat) (hk0:blankR s.data.toList 0=k0) (hlt:k0<s.size) (pv:Tree) (pb:Bool) (pp:Nat) (pf:Int) (hpp:pp≤s.size)
   (HSM0:∀ w,Calls Tryz.prog 60 #[.string s,.int .i64 k0,.int .i64 d,.bool false] w fun e w'=>PartP w ⟨pv,true,pp,0⟩ e w') (k1:Nat) (hk1:blankR s.data.toList pp=k1) (hl1:s.size≤k1) (W:World) (R:Tree×Bool×Int×Nat) (hR:R=(pv,true,0,s.size)) :
   Calls Tryz.prog 39 #[.string s,.int .i64 d,.bool false] W fun e w'=>SomeEnd W R e w':=by
 subst hR
 have HK:=hid (fun w=>rblank_at s hs 0 k0 0 rfl (Nat.zero_le _) hk0 w)
 have HSM:=hid HSM0
 clear hk0 HSM0
 have HK1:=hid (fun w=>rblank_at s hs pp k1 pp rfl hpp hk1 w)
 clear hk1
 go_enter Tryz.func39,Tryz.ntmps39
 go_upto_region 10 with (first
   | (go_at_call 59
      go_must (
        refine (HK.out _).mono ?_
        rintro e wB ⟨rfl,hwB⟩
        have S0:SmX W wB s.size 0 zeroY zeroT 0:=by
          rw[← hwB]
          have b1:=below1 W (.cells zero6 29)
          have b2:=b1.alloc b1.size (.cells #[.int .i64 0,.int .i64 0] 55)
          have b3:=b2.alloc b2.size (.cells #[.int .i64 0,.int .i64 s.size] 55)
          have p2:=Own.fresh (W.alloc (.cells zero6 29)) 55 #[.int .i64 0,.int .i64 0]
          have p3:=Own.fresh ((W.alloc (.cells zero6 29)).alloc (.cells #[.int .i64 0,.int .i64 0] 55)) 55 #[.int .i64 0,.int .i64 s.size]
          simp at p2 p3
          exact ⟨((Own.fresh W 29 zero6).over _).over _,p2.over _,p3,b3,fun u _=>leaf_is u 0 0 0 [],Nat.zero_le _⟩
        clear hwB
        have HS0:=hid S0
        clear S0))
   | (go_at_call 60
      go_must (
        refine (HSM.out _).mono ?_
        rintro e w3 ⟨x,rfl,hk3,hb3⟩
        have S0:=HS0.out
        have hin:=S0.o9.inside
        have b4:=below1 w3 (.cells #[.int .i64 x.kd,.int .i64 x.fr,.int .i64 x.to,.string ⟨x.tx.toArray⟩,.slice x.A x.n x.c,.slice x.B x.m x.d,.bool true,.int .i64 pp,.int .i64 0] 125)
        have SP:SmX W (w3.alloc (.cells #[.int .i64 x.kd,.int .i64 x.fr,.int .i64 x.to,.string ⟨x.tx.toArray⟩,.slice x.A x.n x.c,.slice x.B x.m x.d,.bool true,.int .i64 pp,.int .i64 0] 125)) s.size 0 x pv w3.heap.size :=
          ⟨(S0.o6.stay hb3 S0.o6.inside).over _,(S0.o8.stay hb3 S0.o8.inside).over _,(S0.o9.stay hb3 S0.o9.inside).over _,(S0.bel.trans (hb3.mono S0.bel.size)).trans (b4.mono (Nat.le_trans S0.bel.size hb3.size)),
           fun u hu=>hk3 u (fun b h1 h2=>(hu b (by omega) h2).trans (b4.block b h2)),b4.size⟩
        have OP:=Own.fresh w3 125 #[.int .i64 x.kd,.int .i64 x.fr,.int .i64 x.to,.string ⟨x.tx.toArray⟩,.slice x.A x.n x.c,.slice x.B x.m x.d,.bool true,.int .i64 pp,.int .i64 0]
        have hq:W.heap.size+3≤w3.heap.size:=Nat.le_trans hin hb3.size
        clear S0 hin b4 hk3 hb3)))
 change Code.wp _ _ _ _ (w3.alloc (.cells #[.int .i64 x.kd,.int .i64 x.fr,.int .i64 x.to,.string ⟨x.tx.toArray⟩,.slice x.A x.n x.c,.slice x.B x.m x.d,.bool true,.int .i64 pp,.int .i64 0] 125))
 generalize w3.alloc (.cells #[.int .i64 x.kd,.int .i64 x.fr,.int .i64 x.to,.string ⟨x.tx.toArray⟩,.slice x.A x.n x.c,.slice x.B x.m x.d,.bool true,.int .i64 pp,.int .i64 0] 125)=wP at SP OP ⊢
 generalize w3.heap.size=q at SP OP hq ⊢
 have S:=SP
 clear SP HS0 HK HSM
 have q0:=OP.at 0
 have q1:=OP.at 1
 have q2:=OP.at 2
 have q3:=OP.at 3
 have q4:=OP.at 4
 have q5:=OP.at 5
 have q6:=OP.at 6
 have q7:=OP.at 7
 have q8:=OP.at 8
 simp at q0 q1 q2 q3 q4 q5 q6 q7 q8
 have n1:¬ q=W.heap.size:=by omega
 have n2:¬ q=W.heap.size+1:=by omega
 have n3:¬ q=W.heap.size+2:=by omega
 have n4:¬ W.heap.size=q:=by omega
 have n5:¬ W.heap.size+1=q:=by omega
 have n6:¬ W.heap.size+2=q:=by omega
 have y0:=S.o6.at 0
 have y1:=S.o6.at 1
 have y2:=S.o6.at 2
 have y3:=S.o6.at 3
 have y4:=S.o6.at 4
 have y5:=S.o6.at 5
 simp[zero6] at y0 y1 y2 y3 y4 y5
 have f0:=S.o6.free 0
 have f1:=S.o6.free 1
 have f2:=S.o6.free 2
 have f3:=S.o6.free 3
 have f4:=S.o6.free 4
 have f5:=S.o6.free 5
 have s0:=S.o8.at 0
 have s1:=S.o8.at 1
 simp at s0 s1
 have g0:=S.o8.free 0
 have g1:=S.o8.free 1
 have r0:=S.o9.at 0
 have r1:=S.o9.at 1
 simp at r0 r1
 have h0:=S.o9.free 0
 go_upto_region 19 with (go_at_call 59;refine (HK1.out _).mono ?_;rintro e w' ⟨rfl,rfl⟩)
 go_region
 all_goals
   rename_i hK
   obtain ⟨e6,e8,hk,hb⟩:=S.done 0 s.size
   have hk:=hk.drew1
   have Z6:=own_drewR e6
   have Z8:=own_drewR e8
   have hb:=hb.drew
   unfold putS put2R put6R at Z6 Z8 hk hb
   try dsimp only [zeroY] at Z6 Z8 hk hb
   have HZ6:=hid Z6
   have HZ8:=hid Z8
   have HV:=hid hk
   have HT:=hid hb
   clear Z6 Z8 hk hb e6 e8 y0 y1 y2 y3 y4 y5 f0 f1 f2 f3 f4 f5 s0 s1 g0 g1 r0 r1 h0 q0 q1 q2 q3 q4 q5 q6 q7 q8 n1 n2 n3 n4 n5 n6
   refine hK _ _ ?_
   go_wp2
   refine bodyPost_ret (results_ctcR rfl _ _ W.heap.size _ _ (0,0) _ (W.heap.size+1) _ _ (0,0) _ rfl HZ6.out Tryz.underlying29 rfl val_sizeR rfl HZ8.out Tryz.underlying55 rfl verd_sizeR) rfl ?_
   exact ⟨_,rfl,HV.out,HT.out⟩
set_option maxHeartbeats 16000000 in
theorem rSome_b (s:ByteArray) (d:Nat) (hs:s.size≤50000) (hd:1≤d) (hd2:d≤1000) (k0:Nat) (hk0:blankR s.data.toList 0=k0) (hlt:k0<s.size) (pv:Tree) (pb:Bool) (pp:Nat) (pf:Int) (hpp:pp≤s.size)
   (HSM0:∀ w,Calls Tryz.prog 60 #[.string s,.int .i64 k0,.int .i64 d,.bool true] w fun e w'=>PartP w ⟨pv,true,pp,0⟩ e w') (k1:Nat) (hk1:blankR s.data.toList pp=k1) (hl1:s.size≤k1) (W:World) (R:Tree×Bool×Int×Nat) (hR:R=(pv,true,1,s.size)) :
   Calls Tryz.prog 39 #[.string s,.int .i64 d,.bool true] W fun e w'=>SomeEnd W R e w':=by
 subst hR
 have HK:=hid (fun w=>rblank_at s hs 0 k0 0 rfl (Nat.zero_le _) hk0 w)
 have HSM:=hid HSM0
 clear hk0 HSM0
 have HK1:=hid (fun w=>rblank_at s hs pp k1 pp rfl hpp hk1 w)
 clear hk1
 go_enter Tryz.func39,Tryz.ntmps39
 go_upto_region 10 with (first
   | (go_at_call 59
      go_must (
        refine (HK.out _).mono ?_
        rintro e wB ⟨rfl,hwB⟩
        have S0:SmX W wB s.size 0 zeroY zeroT 0:=by
          rw[← hwB]
          have b1:=below1 W (.cells zero6 29)
          have b2:=b1.alloc b1.size (.cells #[.int .i64 0,.int .i64 0] 55)
          have b3:=b2.alloc b2.size (.cells #[.int .i64 0,.int .i64 s.size] 55)
          have p2:=Own.fresh (W.alloc (.cells zero6 29)) 55 #[.int .i64 0,.int .i64 0]
          have p3:=Own.fresh ((W.alloc (.cells zero6 29)).alloc (.cells #[.int .i64 0,.int .i64 0] 55)) 55 #[.int .i64 0,.int .i64 s.size]
          simp at p2 p3
          exact ⟨((Own.fresh W 29 zero6).over _).over _,p2.over _,p3,b3,fun u _=>leaf_is u 0 0 0 [],Nat.zero_le _⟩
        clear hwB
        have HS0:=hid S0
        clear S0))
   | (go_at_call 60
      go_must (
        refine (HSM.out _).mono ?_
        rintro e w3 ⟨x,rfl,hk3,hb3⟩
        have S0:=HS0.out
        have hin:=S0.o9.inside
        have b4:=below1 w3 (.cells #[.int .i64 x.kd,.int .i64 x.fr,.int .i64 x.to,.string ⟨x.tx.toArray⟩,.slice x.A x.n x.c,.slice x.B x.m x.d,.bool true,.int .i64 pp,.int .i64 0] 125)
        have SP:SmX W (w3.alloc (.cells #[.int .i64 x.kd,.int .i64 x.fr,.int .i64 x.to,.string ⟨x.tx.toArray⟩,.slice x.A x.n x.c,.slice x.B x.m x.d,.bool true,.int .i64 pp,.int .i64 0] 125)) s.size 0 x pv w3.heap.size :=
          ⟨(S0.o6.stay hb3 S0.o6.inside).over _,(S0.o8.stay hb3 S0.o8.inside).over _,(S0.o9.stay hb3 S0.o9.inside).over _,(S0.bel.trans (hb3.mono S0.bel.size)).trans (b4.mono (Nat.le_trans S0.bel.size hb3.size)),
           fun u hu=>hk3 u (fun b h1 h2=>(hu b (by omega) h2).trans (b4.block b h2)),b4.size⟩
        have OP:=Own.fresh w3 125 #[.int .i64 x.kd,.int .i64 x.fr,.int .i64 x.to,.string ⟨x.tx.toArray⟩,.slice x.A x.n x.c,.slice x.B x.m x.d,.bool true,.int .i64 pp,.int .i64 0]
        have hq:W.heap.size+3≤w3.heap.size:=Nat.le_trans hin hb3.size
        clear S0 hin b4 hk3 hb3)))
 change Code.wp _ _ _ _ (w3.alloc (.cells #[.int .i64 x.kd,.int .i64 x.fr,.int .i64 x.to,.string ⟨x.tx.toArray⟩,.slice x.A x.n x.c,.slice x.B x.m x.d,.bool true,.int .i64 pp,.int .i64 0] 125))
 generalize w3.alloc (.cells #[.int .i64 x.kd,.int .i64 x.fr,.int .i64 x.to,.string ⟨x.tx.toArray⟩,.slice x.A x.n x.c,.slice x.B x.m x.d,.bool true,.int .i64 pp,.int .i64 0] 125)=wP at SP OP ⊢
 generalize w3.heap.size=q at SP OP hq ⊢
 have S:=SP
 clear SP HS0 HK HSM
 have h00:=S.o9.free 0
 have h01:=S.o9.at 0
 have k8:=OP.at 8
 have k7:=OP.at 7
 simp at h01 k8 k7
 go_upto_region 19 with (go_at_call 59;refine (HK1.out _).mono ?_;rintro e w' ⟨rfl,rfl⟩)
 have S1:SmX W (wP.setCell ⟨W.heap.size+2,0,none⟩ (.int .i64 1)) s.size 1 x pv q :=
   ⟨S.o6.past (by show W.heap.size≠W.heap.size+2;omega) _,S.o8.past (by show W.heap.size+1≠W.heap.size+2;omega) _,by have:=S.o9.put 0 (.int .i64 1);simpa using this,S.bel.setCell (by show W.heap.size≤W.heap.size+2;omega) _,
    fun u hu=>S.kept u (fun b h1 h2=>(hu b h1 h2).trans (Below.heap_setCell wP _ _ b (by show b≠W.heap.size+2;omega))),by simpa [World.setCell] using S.top⟩
 have OP1:=OP.past (p:=⟨W.heap.size+2,0,none⟩) (by show q≠W.heap.size+2;omega) (.int .i64 1)
 clear h00 h01 k7 k8
 generalize wP.setCell ⟨W.heap.size+2,0,none⟩ (.int .i64 1)=wQ at S1 OP1 ⊢
 clear S OP
 have S:=S1
 have OP:=OP1
 clear S1 OP1
 have q0:=OP.at 0
 have q1:=OP.at 1
 have q2:=OP.at 2
 have q3:=OP.at 3
 have q4:=OP.at 4
 have q5:=OP.at 5
 have q6:=OP.at 6
 have q7:=OP.at 7
 have q8:=OP.at 8
 simp at q0 q1 q2 q3 q4 q5 q6 q7 q8
 have n1:¬ q=W.heap.size:=by omega
 have n2:¬ q=W.heap.size+1:=by omega
 have n3:¬ q=W.heap.size+2:=by omega
 have n4:¬ W.heap.size=q:=by omega
 have n5:¬ W.heap.size+1=q:=by omega
 have n6:¬ W.heap.size+2=q:=by omega
 have y0:=S.o6.at 0
 have y1:=S.o6.at 1
 have y2:=S.o6.at 2
 have y3:=S.o6.at 3
 have y4:=S.o6.at 4
 have y5:=S.o6.at 5
 simp[zero6] at y0 y1 y2 y3 y4 y5
 have f0:=S.o6.free 0
 have f1:=S.o6.free 1
 have f2:=S.o6.free 2
 have f3:=S.o6.free 3
 have f4:=S.o6.free 4
 have f5:=S.o6.free 5
 have s0:=S.o8.at 0
 have s1:=S.o8.at 1
 simp at s0 s1
 have g0:=S.o8.free 0
 have g1:=S.o8.free 1
 have r0:=S.o9.at 0
 have r1:=S.o9.at 1
 simp at r0 r1
 have h0:=S.o9.free 0
 go_region
 all_goals
   rename_i hK
   obtain ⟨e6,e8,hk,hb⟩:=S.done 1 s.size
   have hk:=hk.drew1
   have Z6:=own_drewR e6
   have Z8:=own_drewR e8
   have hb:=hb.drew
   unfold putS put2R put6R at Z6 Z8 hk hb
   try dsimp only [zeroY] at Z6 Z8 hk hb
   have HZ6:=hid Z6
   have HZ8:=hid Z8
   have HV:=hid hk
   have HT:=hid hb
   clear Z6 Z8 hk hb e6 e8 y0 y1 y2 y3 y4 y5 f0 f1 f2 f3 f4 f5 s0 s1 g0 g1 r0 r1 h0 q0 q1 q2 q3 q4 q5 q6 q7 q8 n1 n2 n3 n4 n5 n6
   refine hK _ _ ?_
   go_wp2
   refine bodyPost_ret (results_ctcR rfl _ _ W.heap.size _ _ (0,0) _ (W.heap.size+1) _ _ (0,0) _ rfl HZ6.out Tryz.underlying29 rfl val_sizeR rfl HZ8.out Tryz.underlying55 rfl verd_sizeR) rfl ?_
   exact ⟨_,rfl,HV.out,HT.out⟩
theorem rSome_any (s:ByteArray) (cl:Bool) (d:Nat) (hs:s.size≤50000) (hd:1≤d) (hd2:d≤1000) (W:World) :
   Calls Tryz.prog 39 #[.string s,.int .i64 d,.bool cl] W fun e w'=>SomeEnd W (SomeR s.data.toList d cl) e w':=by
 have hsl:s.data.toList.length=s.size:=rfl
 obtain ⟨k0,hk0⟩:∃ k0,blankR s.data.toList 0=k0:=⟨_,rfl⟩
 unfold SomeR
 rw[newN_most d hd,hk0,hsl]
 by_cases hge:s.size≤k0
 ·rw[if_pos hge]
  cases cl
  ·exact rSome_ef s d hs hd hd2 k0 hk0 hge W
  ·exact rSome_et s d hs hd hd2 k0 hk0 hge W
 ·rw [if_neg hge]
  have hlt:k0<s.size:=by omega
  obtain ⟨⟨pv,pb,pp,pf⟩,hp⟩:∃ p,someR s.data.toList cl d k0=p:=⟨_,rfl⟩
  have hbd:=someR_bd s.data.toList cl d k0 hlt
  have HSM:=rsome_all s cl hs d hd2 k0 hlt
  rw[hp] at hbd HSM ⊢
  have hpp:pp≤s.size:=hbd.1
  have hp0:pf=0→k0≤pp∧pb=true:=hbd.2
  show Calls _ _ _ _ fun e w'=>SomeEnd W (if pf=10∧cl=false then _ else if pf≠0 then _ else if blankR s.data.toList pp<s.size then _ else _) e w'
  by_cases ht:pf=10∧cl=false
  ·rw[if_pos ht]
   obtain ⟨rfl,rfl⟩:=ht
   exact rSome_t s d hs hd hd2 k0 hk0 hlt pv pb pp 10 hpp HSM W _ rfl
  ·rw [if_neg ht]
   by_cases hf:pf=0
   ·obtain ⟨_,rfl⟩:=hp0 hf
    subst hf
    rw[if_neg (fun h=>h rfl)]
    by_cases hl1:blankR s.data.toList pp<s.size
    ·rw[if_pos hl1]
     exact rSome_r s d hs hd hd2 k0 hk0 hlt pv true pp 0 hpp cl HSM _ rfl hl1 W _ rfl
    ·rw[if_neg hl1]
     cases cl
     ·exact rSome_a s d hs hd hd2 k0 hk0 hlt pv true pp 0 hpp HSM _ rfl (by omega) W _ rfl
     ·exact rSome_b s d hs hd hd2 k0 hk0 hlt pv true pp 0 hpp HSM _ rfl (by omega) W _ rfl
   ·rw [if_pos hf]
    by_cases h10:pf=10
    ·subst h10
     obtain rfl:cl=true:=by cases cl;exact absurd ⟨rfl,rfl⟩ ht;rfl
     exact rSome_g s d hs hd hd2 k0 hk0 hlt pv pb pp 10 hpp HSM W _ rfl
    ·exact rSome_f s d hs hd hd2 k0 hk0 hlt pv pb pp pf hpp cl HSM (bne_iff_ne.2 hf) (beq_eq_false_iff_ne.2 h10) W _ rfl
end
section
open Go.RowKit
structure SmY (W w:World) (x:V6) (pv:Tree) (E:Nat):Prop where
 o6:Own w W.heap.size 29 zero6
 o8:Own w (W.heap.size+1) 55 #[.int .i64 0,.int .i64 0]
 bel:Below W.heap.size W w
 kept:VKept (W.heap.size+2) E w pv x
 top:E≤w.heap.size
theorem SmY.done {W w:World} {x:V6} {pv:Tree} {E:Nat} (h:SmY W w x pv E) (kd:Int) (p:Nat) :
   Own (putS w W.heap.size x kd p) W.heap.size 29 (v6Cells x).toArray∧Own (putS w W.heap.size x kd p) (W.heap.size+1) 55 #[.int .i64 kd,.int .i64 p] ∧
   VKept W.heap.size (putS w W.heap.size x kd p).heap.size (putS w W.heap.size x kd p) pv x∧Below W.heap.size W (putS w W.heap.size x kd p):=by
 have ht:=h.top
 have p1:Own (putS w W.heap.size x kd p) W.heap.size 29 (v6Cells x).toArray:=by
   unfold putS
   exact two_past (six_own h.o6 x) (by omega) kd p
 have p2:Own (putS w W.heap.size x kd p) (W.heap.size+1) 55 #[.int .i64 kd,.int .i64 p]:=by
   unfold putS
   exact two_own (six_past h.o8 (by omega) x) kd p
 have hs:=putS_size w W.heap.size x kd p
 have hh:∀ b,b≠W.heap.size→b≠W.heap.size+1→(putS w W.heap.size x kd p).heap[b]?=w.heap[b]?:=fun b h1 h2=>putS_high h1 h2 x kd p
 have p3:Below W.heap.size W (putS w W.heap.size x kd p):=by
   unfold putS put2R put6R
   exact (((((((h.bel.setCell (p:=⟨W.heap.size,0,none⟩) (Nat.le_refl _) _).setCell (p:=⟨W.heap.size,1,none⟩) (Nat.le_refl _) _).setCell (p:=⟨W.heap.size,2,none⟩) (Nat.le_refl _) _).setCell (p:=⟨W.heap.size,3,none⟩) (Nat.le_refl _) _).setCell (p:=⟨W.heap.size,4,none⟩) (Nat.le_refl _) _).setCell (p:=⟨W.heap.size,5,none⟩) (Nat.le_refl _) _).setCell (p:=⟨W.heap.size+1,0,none⟩) (Nat.le_succ _) _).setCell (p:=⟨W.heap.size+1,1,none⟩) (Nat.le_succ _) _
 generalize putS w W.heap.size x kd p=wF at p1 p2 p3 hs hh ⊢
 exact ⟨p1,p2,fun u hu=>h.kept u (fun b h1 h2=>(hu b (by omega) (by omega)).trans (hh b (by omega) (by omega))),p3⟩
def ParseEndR (W:World) (r:Tree×Int×Nat) (e:Ending) (w':World):Prop :=
 ∃ x:V6,e=.returned (.tuple #[.agg #[.int .i64 x.kd,.int .i64 x.fr,.int .i64 x.to,.string ⟨x.tx.toArray⟩,.slice x.A x.n x.c,.slice x.B x.m x.d],.agg #[.int .i64 r.2.1,.int .i64 r.2.2]])∧VIs w' r.1 x∧Below W.heap.size W w'
def ParseEndK (W:World) (r:Tree×Int×Nat) (e:Ending) (w':World):Prop :=
 ∃ x:V6,e=.returned (.tuple #[.agg #[.int .i64 x.kd,.int .i64 x.fr,.int .i64 x.to,.string ⟨x.tx.toArray⟩,.slice x.A x.n x.c,.slice x.B x.m x.d],.agg #[.int .i64 r.2.1,.int .i64 r.2.2]])∧VKept W.heap.size w'.heap.size w' r.1 x∧Below W.heap.size W w'
theorem new_size (w:World)(o:Obj):(w.alloc o).heap.size=w.heap.size+1:=by simp
set_option maxHeartbeats 16000000 in
theorem rParse_ok (s:ByteArray) (d:Nat) (hs:s.size≤50000) (hd:1≤d) (hd2:d≤1000) (pv:Tree) (pb:Bool) (kk:Int) (pp:Nat)
   (HSM0:∀ w,Calls Tryz.prog 39 #[.string s,.int .i64 d,.bool true] w fun e w' => ∃ x:V6,e=.returned (.tuple #[.agg #[.int .i64 x.kd,.int .i64 x.fr,.int .i64 x.to,.string ⟨x.tx.toArray⟩,.slice x.A x.n x.c,.slice x.B x.m x.d],.bool pb,.agg #[.int .i64 1,.int .i64 pp]])∧VKept w.heap.size w'.heap.size w' pv x∧Below w.heap.size w w') (W:World) :
   Calls Tryz.prog 18 #[.string s,.int .i64 d] W fun e w'=>ParseEndK W (pv,1,pp) e w':=by
 have HSM:=hid HSM0
 clear HSM0
 go_enter Tryz.func18,Tryz.ntmps18
 go_upto_region 2 with (
   go_at_call 39
   go_must (
     refine (HSM.out _).mono ?_
     rintro e w3 ⟨x,rfl,hk3,hb3⟩
     have b2:=below2 W (.cells zero6 29) (.cells #[.int .i64 0,.int .i64 0] 55)
     have b4:=below2 w3 (.cells (v6Cells x).toArray 29) (.cells #[.int .i64 1,.int .i64 pp] 55)
     have p2:=Own.fresh (W.alloc (.cells zero6 29)) 55 #[.int .i64 0,.int .i64 0]
     have hz:((W.alloc (.cells zero6 29)).alloc (.cells #[.int .i64 0,.int .i64 0] 55)).heap.size=W.heap.size+2:=by simp
     have SP:SmY W ((w3.alloc (.cells (v6Cells x).toArray 29)).alloc (.cells #[.int .i64 1,.int .i64 pp] 55)) x pv w3.heap.size:=by
       have p1:=(Own.fresh W 29 zero6).over (.cells #[.int .i64 0,.int .i64 0] 55)
       simp at p2
       have hb3s:=hb3.size
       refine ⟨((p1.stay hb3 p1.inside).over _).over _,((p2.stay hb3 p2.inside).over _).over _,(b2.trans (hb3.mono b2.size)).trans (b4.mono (Nat.le_trans b2.size hb3.size)),fun u hu=>hk3 u (fun b h1 h2=>(hu b (by simp at h1;omega) h2).trans (b4.block b h2)),b4.size⟩
     have OX:=(Own.fresh w3 29 (v6Cells x).toArray).over (.cells #[.int .i64 1,.int .i64 pp] 55)
     have OV:=Own.fresh (w3.alloc (.cells (v6Cells x).toArray 29)) 55 #[.int .i64 1,.int .i64 pp]
     simp only [new_size] at OV
     have hq:W.heap.size+2≤w3.heap.size:=by have:=hb3.size;simp at this;omega
     clear b2 b4 p2 hz hk3 hb3))
 unfold v6Cells at SP OX OV
 change Code.wp _ _ _ _ ((w3.alloc (.cells #[.int .i64 x.kd,.int .i64 x.fr,.int .i64 x.to,.string ⟨x.tx.toArray⟩,.slice x.A x.n x.c,.slice x.B x.m x.d] 29)).alloc (.cells #[.int .i64 1,.int .i64 pp] 55))
 change SmY W ((w3.alloc (.cells #[.int .i64 x.kd,.int .i64 x.fr,.int .i64 x.to,.string ⟨x.tx.toArray⟩,.slice x.A x.n x.c,.slice x.B x.m x.d] 29)).alloc (.cells #[.int .i64 1,.int .i64 pp] 55)) x pv w3.heap.size at SP
 change Own ((w3.alloc (.cells #[.int .i64 x.kd,.int .i64 x.fr,.int .i64 x.to,.string ⟨x.tx.toArray⟩,.slice x.A x.n x.c,.slice x.B x.m x.d] 29)).alloc (.cells #[.int .i64 1,.int .i64 pp] 55)) w3.heap.size 29 #[.int .i64 x.kd,.int .i64 x.fr,.int .i64 x.to,.string ⟨x.tx.toArray⟩,.slice x.A x.n x.c,.slice x.B x.m x.d] at OX
 change Own ((w3.alloc (.cells #[.int .i64 x.kd,.int .i64 x.fr,.int .i64 x.to,.string ⟨x.tx.toArray⟩,.slice x.A x.n x.c,.slice x.B x.m x.d] 29)).alloc (.cells #[.int .i64 1,.int .i64 pp] 55)) (w3.heap.size+1) 55 #[.int .i64 1,.int .i64 pp] at OV
 generalize (w3.alloc (.cells #[.int .i64 x.kd,.int .i64 x.fr,.int .i64 x.to,.string ⟨x.tx.toArray⟩,.slice x.A x.n x.c,.slice x.B x.m x.d] 29)).alloc (.cells #[.int .i64 1,.int .i64 pp] 55)=wP at SP OX OV ⊢
 generalize w3.heap.size=q at SP OX OV hq ⊢
 have S:=SP
 clear SP HSM
 have q0:=OX.at 0
 have q1:=OX.at 1
 have q2:=OX.at 2
 have q3:=OX.at 3
 have q4:=OX.at 4
 have q5:=OX.at 5
 simp at q0 q1 q2 q3 q4 q5
 have n1:¬ q=W.heap.size:=by omega
 have n2:¬ q=W.heap.size+1:=by omega
 have n3:¬ q+1=W.heap.size:=by omega
 have n4:¬ q+1=W.heap.size+1:=by omega
 have n5:¬ W.heap.size=q:=by omega
 have n6:¬ W.heap.size+1=q:=by omega
 have n7:¬ W.heap.size=q+1:=by omega
 have n8:¬ W.heap.size+1=q+1:=by omega
 have y0:=S.o6.at 0
 have y1:=S.o6.at 1
 have y2:=S.o6.at 2
 have y3:=S.o6.at 3
 have y4:=S.o6.at 4
 have y5:=S.o6.at 5
 simp[zero6] at y0 y1 y2 y3 y4 y5
 have f0:=S.o6.free 0
 have f1:=S.o6.free 1
 have f2:=S.o6.free 2
 have f3:=S.o6.free 3
 have f4:=S.o6.free 4
 have f5:=S.o6.free 5
 have s0:=S.o8.at 0
 have s1:=S.o8.at 1
 simp at s0 s1
 have g0:=S.o8.free 0
 have g1:=S.o8.free 1
 have r0:=OV.at 0
 have r1:=OV.at 1
 simp at r0 r1
 go_upto_region 4 with fail
 go_region
 all_goals
   rename_i hK
   obtain ⟨e6,e8,hk,hb⟩:=S.done 1 pp
   have hk:=hk.drew1
   have Z6:=own_drewR e6
   have Z8:=own_drewR e8
   have hb:=hb.drew
   unfold putS put2R put6R at Z6 Z8 hk hb
   try dsimp only [zeroY] at Z6 Z8 hk hb
   have HZ6:=hid Z6
   have HZ8:=hid Z8
   have HV:=hid hk
   have HT:=hid hb
   clear Z6 Z8 hk hb e6 e8 y0 y1 y2 y3 y4 y5 f0 f1 f2 f3 f4 f5 s0 s1 g0 g1 r0 r1 q0 q1 q2 q3 q4 q5 n1 n2 n3 n4 n5 n6 n7 n8
   refine hK _ _ ?_
   go_wp2
   refine bodyPost_ret (results_ccR rfl _ _ W.heap.size _ _ (0,0) _ (W.heap.size+1) _ _ (0,0) _ rfl HZ6.out Tryz.underlying29 rfl val_sizeR rfl HZ8.out Tryz.underlying55 rfl verd_sizeR) rfl ?_
   exact ⟨_,rfl,HV.out,HT.out⟩
set_option maxHeartbeats 16000000 in
theorem rParse_no (s:ByteArray) (d:Nat) (hs:s.size≤50000) (hd:1≤d) (hd2:d≤1000) (pv:Tree) (pb:Bool) (kk:Int) (pp:Nat) (hk:(kk != 1)=true)
   (HSM0:∀ w,Calls Tryz.prog 39 #[.string s,.int .i64 d,.bool true] w fun e w' => ∃ x:V6,e=.returned (.tuple #[.agg #[.int .i64 x.kd,.int .i64 x.fr,.int .i64 x.to,.string ⟨x.tx.toArray⟩,.slice x.A x.n x.c,.slice x.B x.m x.d],.bool pb,.agg #[.int .i64 kk,.int .i64 pp]])∧VKept w.heap.size w'.heap.size w' pv x∧Below w.heap.size w w') (W:World) :
   Calls Tryz.prog 18 #[.string s,.int .i64 d] W fun e w'=>ParseEndK W (zeroT,kk,pp) e w':=by
 have HSM:=hid HSM0
 clear HSM0
 go_enter Tryz.func18,Tryz.ntmps18
 go_upto_region 2 with (
   go_at_call 39
   go_must (
     refine (HSM.out _).mono ?_
     rintro e w3 ⟨x,rfl,hk3,hb3⟩
     have b2:=below2 W (.cells zero6 29) (.cells #[.int .i64 0,.int .i64 0] 55)
     have b4:=below2 w3 (.cells (v6Cells x).toArray 29) (.cells #[.int .i64 kk,.int .i64 pp] 55)
     have p2:=Own.fresh (W.alloc (.cells zero6 29)) 55 #[.int .i64 0,.int .i64 0]
     have hz:((W.alloc (.cells zero6 29)).alloc (.cells #[.int .i64 0,.int .i64 0] 55)).heap.size=W.heap.size+2:=by simp
     have SP:SmY W ((w3.alloc (.cells (v6Cells x).toArray 29)).alloc (.cells #[.int .i64 kk,.int .i64 pp] 55)) x pv w3.heap.size:=by
       have p1:=(Own.fresh W 29 zero6).over (.cells #[.int .i64 0,.int .i64 0] 55)
       simp at p2
       have hb3s:=hb3.size
       refine ⟨((p1.stay hb3 p1.inside).over _).over _,((p2.stay hb3 p2.inside).over _).over _,(b2.trans (hb3.mono b2.size)).trans (b4.mono (Nat.le_trans b2.size hb3.size)),fun u hu=>hk3 u (fun b h1 h2=>(hu b (by simp at h1;omega) h2).trans (b4.block b h2)),b4.size⟩
     have OX:=(Own.fresh w3 29 (v6Cells x).toArray).over (.cells #[.int .i64 kk,.int .i64 pp] 55)
     have OV:=Own.fresh (w3.alloc (.cells (v6Cells x).toArray 29)) 55 #[.int .i64 kk,.int .i64 pp]
     simp only [new_size] at OV
     have hq:W.heap.size+2≤w3.heap.size:=by have:=hb3.size;simp at this;omega
     clear b2 b4 p2 hz hk3 hb3))
 unfold v6Cells at SP OX OV
 change Code.wp _ _ _ _ ((w3.alloc (.cells #[.int .i64 x.kd,.int .i64 x.fr,.int .i64 x.to,.string ⟨x.tx.toArray⟩,.slice x.A x.n x.c,.slice x.B x.m x.d] 29)).alloc (.cells #[.int .i64 kk,.int .i64 pp] 55))
 change SmY W ((w3.alloc (.cells #[.int .i64 x.kd,.int .i64 x.fr,.int .i64 x.to,.string ⟨x.tx.toArray⟩,.slice x.A x.n x.c,.slice x.B x.m x.d] 29)).alloc (.cells #[.int .i64 kk,.int .i64 pp] 55)) x pv w3.heap.size at SP
 change Own ((w3.alloc (.cells #[.int .i64 x.kd,.int .i64 x.fr,.int .i64 x.to,.string ⟨x.tx.toArray⟩,.slice x.A x.n x.c,.slice x.B x.m x.d] 29)).alloc (.cells #[.int .i64 kk,.int .i64 pp] 55)) w3.heap.size 29 #[.int .i64 x.kd,.int .i64 x.fr,.int .i64 x.to,.string ⟨x.tx.toArray⟩,.slice x.A x.n x.c,.slice x.B x.m x.d] at OX
 change Own ((w3.alloc (.cells #[.int .i64 x.kd,.int .i64 x.fr,.int .i64 x.to,.string ⟨x.tx.toArray⟩,.slice x.A x.n x.c,.slice x.B x.m x.d] 29)).alloc (.cells #[.int .i64 kk,.int .i64 pp] 55)) (w3.heap.size+1) 55 #[.int .i64 kk,.int .i64 pp] at OV
 generalize (w3.alloc (.cells #[.int .i64 x.kd,.int .i64 x.fr,.int .i64 x.to,.string ⟨x.tx.toArray⟩,.slice x.A x.n x.c,.slice x.B x.m x.d] 29)).alloc (.cells #[.int .i64 kk,.int .i64 pp] 55)=wP at SP OX OV ⊢
 generalize w3.heap.size=q at SP OX OV hq ⊢
 have S:=SP
 clear SP HSM
 have SZ:SmY W wP zeroY zeroT 0:=⟨S.o6,S.o8,S.bel,fun u _=>leaf_is u 0 0 0 [],Nat.zero_le _⟩
 have q0:=OX.at 0
 have q1:=OX.at 1
 have q2:=OX.at 2
 have q3:=OX.at 3
 have q4:=OX.at 4
 have q5:=OX.at 5
 simp at q0 q1 q2 q3 q4 q5
 have n1:¬ q=W.heap.size:=by omega
 have n2:¬ q=W.heap.size+1:=by omega
 have n3:¬ q+1=W.heap.size:=by omega
 have n4:¬ q+1=W.heap.size+1:=by omega
 have n5:¬ W.heap.size=q:=by omega
 have n6:¬ W.heap.size+1=q:=by omega
 have n7:¬ W.heap.size=q+1:=by omega
 have n8:¬ W.heap.size+1=q+1:=by omega
 have y0:=S.o6.at 0
 have y1:=S.o6.at 1
 have y2:=S.o6.at 2
 have y3:=S.o6.at 3
 have y4:=S.o6.at 4
 have y5:=S.o6.at 5
 simp[zero6] at y0 y1 y2 y3 y4 y5
 have f0:=S.o6.free 0
 have f1:=S.o6.free 1
 have f2:=S.o6.free 2
 have f3:=S.o6.free 3
 have f4:=S.o6.free 4
 have f5:=S.o6.free 5
 have s0:=S.o8.at 0
 have s1:=S.o8.at 1
 simp at s0 s1
 have g0:=S.o8.free 0
 have g1:=S.o8.free 1
 have r0:=OV.at 0
 have r1:=OV.at 1
 simp at r0 r1
 go_upto_region 3 with fail
 go_region
 all_goals
   rename_i hK
   obtain ⟨e6,e8,hk,hb⟩:=SZ.done kk pp
   have hk:=hk.drew1
   have Z6:=own_drewR e6
   have Z8:=own_drewR e8
   have hb:=hb.drew
   unfold putS put2R put6R at Z6 Z8 hk hb
   try dsimp only [zeroY] at Z6 Z8 hk hb
   have HZ6:=hid Z6
   have HZ8:=hid Z8
   have HV:=hid hk
   have HT:=hid hb
   clear Z6 Z8 hk hb e6 e8 y0 y1 y2 y3 y4 y5 f0 f1 f2 f3 f4 f5 s0 s1 g0 g1 r0 r1 q0 q1 q2 q3 q4 q5 n1 n2 n3 n4 n5 n6 n7 n8
   refine hK _ _ ?_
   go_wp2
   refine bodyPost_ret (results_ccR rfl _ _ W.heap.size _ _ (0,0) _ (W.heap.size+1) _ _ (0,0) _ rfl HZ6.out Tryz.underlying29 rfl val_sizeR rfl HZ8.out Tryz.underlying55 rfl verd_sizeR) rfl ?_
   exact ⟨_,rfl,HV.out,HT.out⟩
theorem rParseK_any (s:ByteArray) (d:Nat) (hs:s.size≤50000) (hd:1≤d) (hd2:d≤1000) (W:World) :
   Calls Tryz.prog 18 #[.string s,.int .i64 d] W fun e w'=>ParseEndK W (ParseR s.data.toList d) e w':=by
 have HS:=fun w=>rSome_any s true d hs hd hd2 w
 unfold ParseR
 obtain ⟨⟨pv,pb,kk,pp⟩,hp⟩:∃ r,SomeR s.data.toList d true=r:=⟨_,rfl⟩
 rw[hp] at HS ⊢
 by_cases hk:kk=1
 ·subst hk
  exact rParse_ok s d hs hd hd2 pv pb 1 pp HS W
 ·show Calls _ _ _ _ fun e w'=>ParseEndK W (if kk=1 then _ else _) e w'
  rw[if_neg hk]
  exact rParse_no s d hs hd hd2 pv pb kk pp (bne_iff_ne.2 hk) HS W
theorem rParse_any (s:ByteArray) (d:Nat) (hs:s.size≤50000) (hd:1≤d) (hd2:d≤1000) (W:World) :
   Calls Tryz.prog 18 #[.string s,.int .i64 d] W fun e w'=>ParseEndR W (ParseR s.data.toList d) e w' :=
 (rParseK_any s d hs hd hd2 W).mono fun e w' h=>by
   obtain ⟨x,h1,h2,h3⟩:=h
   exact ⟨x,h1,h2 _ (fun _ _ _=>rfl),h3⟩
end
end Go.Proofs.YtnokhgfifbkflaaGreat
