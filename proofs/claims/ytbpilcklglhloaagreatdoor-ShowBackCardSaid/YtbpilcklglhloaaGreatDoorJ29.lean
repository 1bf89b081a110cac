/- Lemmas. -/
import Derived.Test.YtbpilcklglhloaaGreatDoorJ28
import Derived.Lib.ConvBytes
set_option maxRecDepth 100000
set_option maxHeartbeats 8000000
set_option linter.unusedVariables false
namespace Go.Proofs.YtbpilcklglhloaaGreatDoor
open Go.Lib (hid)
section
open Go.RowKit
theorem conv_str (w:World) (s:ByteArray):∃ c w1,(convert 9 22 (.string s)).run Tryz.prog w=.ok (.slice (some ⟨w.heap.size,0,none⟩) s.size c) w1 ∧
   Rd w1 w1.heap.size (some ⟨w.heap.size,0,none⟩) s.size (byteCells s.data.toList)∧Below w.heap.size w w1:=by
 have hz:=Lib.bytesWorld_size w 5 s
 refine ⟨_,_,Lib.run_convert_string_bytes w _ _ 5 s Tryz.underlying9 Tryz.underlying22 Tryz.underlying5,⟨byteCells_length _,fun h=>⟨_,rfl,by rw[hz];exact Nat.lt_succ_self _,fun j u hu => ?_⟩⟩,
   ⟨rfl,rfl,rfl,by rw[hz];exact Nat.le_succ _,fun k hk=>Lib.bytesWorld_at_old w _ s k hk⟩⟩
 have hj:j<s.size:=by have:=(List.getElem?_eq_some_iff.1 hu).1;rw[byteCells_length] at this;exact this
 rw[add_none,Nat.zero_add,Lib.bytesWorld_cell w _ s j hj,getD_at s j hj]
 unfold byteCells at hu
 rw[List.getElem?_map,List.getElem?_eq_getElem (show j<s.data.toList.length from hj)] at hu
 exact hu
theorem conv_take (w:World) (s:ByteArray) (k:Nat) (h:k≤s.size):∃ c w1,(convert 9 22 (.string (s.extract 0 k))).run Tryz.prog w=.ok (.slice (some ⟨w.heap.size,0,none⟩) k c) w1 ∧
   Rd w1 w1.heap.size (some ⟨w.heap.size,0,none⟩) k (byteCells (s.data.toList.take k))∧Below w.heap.size w w1:=by
 obtain ⟨c,w1,h1,h2,h3⟩:=conv_str w (s.extract 0 k)
 have e6:(s.extract 0 k).size=k:=by rw[ByteArray.size_extract];omega
 rw[e6] at h1 h2
 rw[head_list] at h2
 exact ⟨c,w1,h1,h2,h3⟩
theorem ofB_len2 (m:Int):(ofB m).length=(ofI m).length:=by unfold ofB;rw[List.length_map]
theorem ofB_cells (m:Int) (h0:0≤m) (h1:m≤1114111):byteCells (ofB m)=(ofI m).map (Value.int .u8):=by
 unfold byteCells ofB
 rcases ofI_is (n:=m) with ⟨_,h⟩|⟨_,_,h⟩|⟨_,_,h⟩|⟨_,h⟩
 ·rw[h];simp<;>omega
 ·rw[h];simp<;>omega
 ·rw[h];simp<;>omega
 ·rw[h];simp<;>omega
theorem unitR_bd (l:List UInt8) (sec:Bool):(unitR l sec).1≤6∧(unitR l sec).1≤l.length∧0≤(unitR l sec).2.1∧(unitR l sec).2.1≤65535:=by
 unfold unitR
 split
 ·exact ⟨by simp,by simp,by simp,by simp⟩
 ·rename_i c0 l1
  split
  ·exact ⟨by simp,by simp,by simp,by simp⟩
  ·split
   ·exact ⟨by simp,by simp,by simp,by simp⟩
   ·rename_i c1 r
    split
    ·exact ⟨by simp,by simp,by simp,by simp⟩
    ·obtain ⟨b1,b2,b3,b4⟩:=hexR_bd r
     generalize (hexR r).1=n at *
     generalize (hexR r).2=v at *
     generalize (if 1≤n then hexI (r.getD 0 0).toNat else -1)=d1 at *
     generalize (if 2≤n then hexI (r.getD 1 0).toNat else -1)=d2 at *
     unfold unitD
     cases sec<;>simp only []<;>(repeat' split)<;>refine ⟨?_,?_,?_,?_⟩<;>simp<;>omega
theorem results_tmp4 {fn:Func} {t u v x:Tmp} (h:fn.results = #[.tmp t,.tmp u,.tmp v,.tmp x]) (tmps:Array Value) (P:Program) (w:World) :
   (results fn tmps).run P w=.ok (.tuple #[tmps.getD t undef,tmps.getD u undef,tmps.getD v undef,tmps.getD x undef]) w:=by
 simp[results,h]
def PieceP (W:World)(t:List UInt8×Nat×Int×Bool)(e:Ending)(w':World):Prop:=∃ A c,e=.returned (.tuple #[.slice A t.1.length c,.int .i64 t.2.1,.int .i64 t.2.2.1,.bool t.2.2.2])∧Rd w' w'.heap.size A t.1.length (byteCells t.1)∧Below W.heap.size W w'
def PieceC (s:ByteArray)(W:World)(t:List UInt8×Nat×Int×Bool):Prop:=Calls Tryz.prog 97 #[.string s] W fun e w'=>PieceP W t e w'
theorem rpiece_ctl (s:ByteArray) (h1:1≤s.size) (hc:(s[0].toNat:Int)<32) (W:World):PieceC s W ([],0,7,false):=by
 show Calls _ _ _ _ _
 go_enter Tryz.func97,Tryz.ntmps97
 go_wp2
 ((try simp only [Exit.inBlock,Exit.then]);refine bodyPost_ret (results_tmp4 rfl _ _ _) rfl ?_)
 exact ⟨none,0,rfl,Rd.zero _ _ _,Below.refl _ _⟩
theorem sigR_cons (s:ByteArray) (m:Nat) (h:m<s.size) (sg lf:Int):sigR sg lf (s.data.toList.drop m) m=if okU sg lf s[m].toNat then (if lfU lf s[m].toNat=0 then (m+1,0,true) else sigR (sgU sg lf s[m].toNat) (lfU lf s[m].toNat) (s.data.toList.drop (m+1)) (m+1)) else (m,2,false):=by
 rw[drop_at s m h]
 rfl
def RelPc (s:ByteArray) (W w:World) (i:Value):Prop :=
 ∃ (m:Nat) (sg lf:Int),m≤s.size∧i=.int .i64 ((m+1:Nat):Int)∧InvL (s.data.toList.take m) sg lf∧StU sg lf∧sigR 0 0 s.data.toList 0=sigR sg lf (s.data.toList.drop m) m∧Below W.heap.size W w
theorem rpiece_sig (s:ByteArray) (hs:s.size≤100000) (h1:1≤s.size) (hc:¬ (s[0].toNat:Int)<32) (hn:¬ (s[0].toNat:Int)=92) (W:World) (T:List UInt8×Nat×Int×Bool) (hT:T=((if (sigR 0 0 s.data.toList 0).2.2 then s.data.toList.take (sigR 0 0 s.data.toList 0).1 else []),sigR 0 0 s.data.toList 0)):PieceC s W T:=by
 have HT:=hid hT
 clear hT
 have hsl:s.data.toList.length=s.size:=rfl
 have hnb:((s[0].toNat:Int) != 92)=true:=bne_iff_ne.2 hn
 show Calls _ _ _ _ _
 go_enter Tryz.func97,Tryz.ntmps97
 go_wp2
 go_loopw [6] (fun i w=>RelPc s W w i) (fun i _=>s.size+2-(intOf i).toNat)
 case atStart=>exact ⟨0,0,0,Nat.zero_le _,rfl,rfl,stU_zero,rfl,Below.refl _ _⟩
 case round =>
   obtain ⟨m,sg,lf,hm,rfl,hinv,hst,hsig,hb2⟩:=hrel
   by_cases hlt:m<s.size
   ·have hl2:m<s.data.toList.length:=hlt
    have hp:=part_snoc s 0 m (Nat.zero_le _) hlt
    rw[List.drop_zero] at hp
    rw[sigR_cons s m hlt] at hsig
    by_cases hok:okU sg lf s[m].toNat=true
    ·have hst':=hid (stU_step hst (Int.natCast_nonneg _) hok)
     have hinv':=invL_step hinv hok
     rw[if_pos hok] at hsig
     by_cases hz:lfU lf s[m].toNat=0
     ·have HB:=hid (fun w=>rbegins_step _ _ _ _ _ hp hinv w (x:=true) (y:=true) (z:=sgU sg lf s[m].toNat) (by unfold ansU;rw[if_pos hok,if_pos hz]))
      rw[if_pos hz] at hsig
      have HS:=hid hsig
      clear hinv' hinv hsig hp hok hz hst'
      go_wp2_with (go_at_call 122;refine (HB.out _).mono ?_;rintro e w3 ⟨rfl,hb⟩;obtain ⟨c3,w4,kc,kr,kb⟩:=conv_take w3 s (m+1) hlt)
      ((try simp only [Exit.inBlock,Exit.then]);refine bodyPost_ret (results_tmp4 rfl _ _ _) rfl ?_)
      rw[HT.out,HS.out]
      have e7:(s.data.toList.take (m+1)).length=m+1:=by rw[List.length_take];omega
      show PieceP W (s.data.toList.take (m+1),m+1,0,true) _ _
      unfold PieceP
      rw[e7]
      exact ⟨some ⟨w3.heap.size,0,none⟩,c3,by go_num,kr,(hb2.trans (hb.mono hb2.size)).trans (kb.mono (Nat.le_trans hb2.size hb.size))⟩
     ·have HB:=hid (fun w=>rbegins_step _ _ _ _ _ hp hinv w (x:=true) (y:=false) (z:=0) (by unfold ansU;rw[if_pos hok,if_neg hz]))
      rw[if_neg hz] at hsig hinv'
      have HI:=hid hinv'
      have HS:=hid hsig
      clear hinv' hinv hsig hp hok hz
      go_wp2_with (go_at_call 122;refine (HB.out _).mono ?_;rintro e w' ⟨rfl,hb⟩)
      go_roundw
      case rel=>exact ⟨m+1,_,_,by omega,by go_num,(by rw[List.take_succ_eq_append_getElem hl2];exact HI.out),hst'.out,HS.out,hb2.trans (hb.mono hb2.size)⟩
      case measure=>simp[intOf];omega
    ·have HB:=hid (fun w=>rbegins_step _ _ _ _ _ hp hinv w (x:=false) (y:=false) (z:=0) (by unfold ansU;rw[if_neg hok]))
     rw[if_neg hok] at hsig
     have HS:=hid hsig
     clear hinv hsig hp hok
     go_wp2_with (go_at_call 122;refine (HB.out _).mono ?_;rintro e w3 ⟨rfl,hb⟩)
     ((try simp only [Exit.inBlock,Exit.then]);refine bodyPost_ret (results_tmp4 rfl _ _ _) rfl ?_)
     rw[HT.out,HS.out]
     exact ⟨none,0,(by show _=Ending.returned (.tuple #[.slice none 0 0,.int .i64 m,.int .i64 2,.bool false]);go_num),Rd.zero _ _ _,hb2.trans (hb.mono hb2.size)⟩
   ·obtain rfl:m=s.size:=by omega
    have HS:=hid (show sigR 0 0 s.data.toList 0=(s.size,0,false) by rw[hsig,drop_none s s.size (Nat.le_refl _)];rfl)
    clear hsig hinv
    go_wp2
    ((try simp only [Exit.inBlock,Exit.then]);refine bodyPost_ret (results_tmp4 rfl _ _ _) rfl ?_)
    rw[HT.out,HS.out]
    exact ⟨none,0,rfl,Rd.zero _ _ _,hb2⟩
end
section
open Go.RowKit
theorem rpiece_one (s:ByteArray) (h1:s.size=1) (e0:(s[0].toNat:Int)=92) (W:World):PieceC s W ([],1,0,false):=by
 show Calls _ _ _ _ _
 go_enter Tryz.func97,Tryz.ntmps97
 go_wp2
 ((try simp only [Exit.inBlock,Exit.then]);refine bodyPost_ret (results_tmp4 rfl _ _ _) rfl ?_)
 exact ⟨none,0,rfl,Rd.zero _ _ _,Below.refl _ _⟩
theorem rpiece_let0 (s:ByteArray) (hs:s.size≤100000) (h2:2≤s.size) (e0:(s[0].toNat:Int)=92) (e1:¬ (s[1].toNat:Int)=117) (hl:letR s[1]=0) (W:World):PieceC s W ([],1,3,false):=by
 have ks:¬ (s.size:Int)=1:=by omega
 have HL:=hid (fun w=>rletR_any s[1] w)
 rw[hl] at HL
 show Calls _ _ _ _ _
 go_enter Tryz.func97,Tryz.ntmps97
 go_wp2_with (go_at_call 123;refine (HL.out _).mono ?_;rintro e w3 ⟨rfl,hb⟩)
 ((try simp only [Exit.inBlock,Exit.then]);refine bodyPost_ret (results_tmp4 rfl _ _ _) rfl ?_)
 exact ⟨none,0,rfl,Rd.zero _ _ _,hb⟩
theorem rpiece_let (s:ByteArray) (hs:s.size≤100000) (h2:2≤s.size) (e0:(s[0].toNat:Int)=92) (e1:¬ (s[1].toNat:Int)=117) (x:UInt8) (hx:letR s[1]=x) (hl:¬ (x.toNat:Int)=0) (W:World):PieceC s W ([x],2,0,true):=by
 have ks:¬ (s.size:Int)=1:=by omega
 have HL:=hid (fun w=>rletR_any s[1] w)
 rw[hx] at HL
 show Calls _ _ _ _ _
 go_enter Tryz.func97,Tryz.ntmps97
 go_wp2_with (go_at_call 123;refine (HL.out _).mono ?_;rintro e w3 ⟨rfl,hb⟩)
 ((try simp only [Exit.inBlock,Exit.then]);refine bodyPost_ret (results_tmp4 rfl _ _ _) rfl ?_)
 exact ⟨_,_,rfl,(lit_rd w3 _ [x] rfl).more (by simp),hb.alloc hb.size _⟩
theorem six_is (s:ByteArray):(s.extract 6 s.size).data.toList=s.data.toList.drop 6∧(s.extract 6 s.size).size=s.size-6:=tail_is s 6
theorem rpiece_bad1 (s:ByteArray) (hs:s.size≤100000) (h2:2≤s.size) (e0:(s[0].toNat:Int)=92) (e1:(s[1].toNat:Int)=117) (n:Nat) (v k:Int) (hu:unitR s.data.toList false=(n,v,k)) (hk:¬ k=0∨k=0∧n<6) (W:World):PieceC s W ([],n,k,false):=by
 have ks:¬ (s.size:Int)=1:=by omega
 have HU:=hid (fun w=>(show Calls _ _ _ _ _ from runitR_any s false hs w))
 rw[hu] at HU
 have b1:=(unitR_bd s.data.toList false).1
 rw[hu] at b1
 have b1:n≤6:=b1
 show Calls _ _ _ _ _
 clear hu
 rcases hk with hk|⟨rfl,hk⟩
 all_goals
   go_enter Tryz.func97,Tryz.ntmps97
   go_wp2_with (go_at_call 124;refine (HU.out _).mono ?_;rintro e w3 ⟨rfl,hb⟩)
   ((try simp only [Exit.inBlock,Exit.then]);refine bodyPost_ret (results_tmp4 rfl _ _ _) rfl ?_)
   exact ⟨none,0,rfl,Rd.zero _ _ _,hb⟩
theorem of_rd {w w':World} {b:Nat} {m:Int} (h0:0≤m) (h1:m≤1114111) (h:Own w' b 5 ((ofI m).map (Value.int .u8)).toArray):Rd w' w'.heap.size (some ⟨b,0,none⟩) (ofB m).length (byteCells (ofB m)):=by
 rw[ofB_cells m h0 h1,ofB_len2]
 exact (Rd.of_list h (by simp)).more h.inside
theorem rpiece_u (s:ByteArray) (hs:s.size≤100000) (h2:2≤s.size) (e0:(s[0].toNat:Int)=92) (e1:(s[1].toNat:Int)=117) (v:Int) (hu:unitR s.data.toList false=(6,v,0)) (hk:v<55296∨¬ v<55296∧56319<v) (W:World):PieceC s W (ofB (fixI v),6,0,true):=by
 have ks:¬ (s.size:Int)=1:=by omega
 have HU:=hid (fun w=>(show Calls _ _ _ _ _ from runitR_any s false hs w))
 rw[hu] at HU
 have HO:=hid (fun w=>of_core v (fixI v) w rfl)
 have hf:=fixI_in v
 show Calls _ _ _ _ _
 clear hu
 generalize fixI v=m at *
 rcases hk with hk|⟨hk,hk2⟩
 all_goals
   go_enter Tryz.func97,Tryz.ntmps97
   go_wp2_with (first
     | (go_at_call 124;refine (HU.out _).mono ?_;rintro e w3 ⟨rfl,hb⟩)
     | (go_at_call 125;refine (HO.out _).mono ?_;rintro e w4 ⟨rfl,ho,hb4⟩))
   ((try simp only [Exit.inBlock,Exit.then]);refine bodyPost_ret (results_tmp4 rfl _ _ _) rfl ?_)
   exact ⟨_,_,(by show _=Ending.returned (.tuple #[.slice _ (ofB m).length _,.int .i64 6,.int .i64 0,.bool true]);rw[ofB_len2];rfl),of_rd (w:=w3) hf.1 hf.2.1 ho,hb.trans (hb4.mono hb.size)⟩
theorem rpiece_bad2 (s:ByteArray) (hs:s.size≤100000) (h6:6≤s.size) (e0:(s[0].toNat:Int)=92) (e1:(s[1].toNat:Int)=117) (v:Int) (hu:unitR s.data.toList false=(6,v,0)) (hv1:¬ v<55296) (hv2:¬ 56319<v)
   (n:Nat) (x k:Int) (hu2:unitR (s.data.toList.drop 6) true=(n,x,k)) (hk:¬ k=0∨k=0∧n<6) (W:World):PieceC s W ([],6+n,k,false):=by
 have ks:¬ (s.size:Int)=1:=by omega
 have HU:=hid (fun w=>(show Calls _ _ _ _ _ from runitR_any s false hs w))
 rw[hu] at HU
 have HV:=hid (fun w=>(show Calls _ _ _ _ _ from runitR_any (s.extract 6 s.size) true (by rw[(six_is s).2];omega) w))
 rw[(six_is s).1,hu2] at HV
 have b1:=(unitR_bd (s.data.toList.drop 6) true).1
 rw[hu2] at b1
 have b1:n≤6:=b1
 show Calls _ _ _ _ _
 clear hu hu2
 rcases hk with hk|⟨rfl,hk⟩
 all_goals
   go_enter Tryz.func97,Tryz.ntmps97
   go_wp2_with (first
     | (go_at_call 124;with_reducible refine (HU.out _).mono ?_;rintro e w3 ⟨rfl,hb⟩)
     | (go_at_call 124;with_reducible refine (HV.out _).mono ?_;rintro e w4 ⟨rfl,hb4⟩))
   ((try simp only [Exit.inBlock,Exit.then]);refine bodyPost_ret (results_tmp4 rfl _ _ _) rfl ?_)
   exact ⟨none,0,(by show _=Ending.returned (.tuple #[.slice none 0 0,.int .i64 ((6+n:Nat):Int),.int .i64 _,.bool false]);go_num),Rd.zero _ _ _,hb.trans (hb4.mono hb.size)⟩
theorem rpiece_pair (s:ByteArray) (hs:s.size≤100000) (h6:6≤s.size) (e0:(s[0].toNat:Int)=92) (e1:(s[1].toNat:Int)=117) (v:Int) (hu:unitR s.data.toList false=(6,v,0)) (hv1:¬ v<55296) (hv2:¬ 56319<v)
   (x:Int) (hu2:unitR (s.data.toList.drop 6) true=(6,x,0)) (W:World):PieceC s W (ofB (fixI (65536+(v-55296)*1024+x-56320)),12,0,true):=by
 have ks:¬ (s.size:Int)=1:=by omega
 have HU:=hid (fun w=>(show Calls _ _ _ _ _ from runitR_any s false hs w))
 rw[hu] at HU
 have HV:=hid (fun w=>(show Calls _ _ _ _ _ from runitR_any (s.extract 6 s.size) true (by rw[(six_is s).2];omega) w))
 rw[(six_is s).1,hu2] at HV
 have b3:=(unitR_bd (s.data.toList.drop 6) true).2.2
 rw[hu2] at b3
 have b4:0≤x:=b3.1
 have b5:x≤65535:=b3.2
 have HO:=hid (fun w=>of_core (65536+(v-55296)*1024+x-56320) _ w rfl)
 have hf:=fixI_in (65536+(v-55296)*1024+x-56320)
 show Calls _ _ _ _ _
 clear hu hu2 b3
 generalize fixI (65536+(v-55296)*1024+x-56320)=m at *
 go_enter Tryz.func97,Tryz.ntmps97
 go_wp2_with (first
   | (go_at_call 124;with_reducible refine (HU.out _).mono ?_;rintro e w3 ⟨rfl,hb⟩)
   | (go_at_call 124;with_reducible refine (HV.out _).mono ?_;rintro e w4 ⟨rfl,hb4⟩)
   | (go_at_call 125;refine (HO.out _).mono ?_;rintro e w5 ⟨rfl,ho,hb5⟩))
 ((try simp only [Exit.inBlock,Exit.then]);refine bodyPost_ret (results_tmp4 rfl _ _ _) rfl ?_)
 exact ⟨_,_,(by show _=Ending.returned (.tuple #[.slice _ (ofB m).length _,.int .i64 12,.int .i64 0,.bool true]);rw[ofB_len2];rfl),of_rd (w:=w4) hf.1 hf.2.1 ho,(hb.trans (hb4.mono hb.size)).trans (hb5.mono (Nat.le_trans hb.size hb4.size))⟩
theorem unitR_len (l:List UInt8) (sec:Bool) (h:(unitR l sec).1=6):6≤l.length:=by
 have:=(unitR_bd l sec).2.1
 omega
theorem rpieceX_any (s:ByteArray) (hs:s.size≤100000) (h1:1≤s.size) (W:World):PieceC s W (pieceX s.data.toList):=by
 have g0:=getD_at s 0 (by omega)
 unfold pieceX
 rw[g0]
 by_cases c1:s[0].toNat<32
 ·rw[if_pos c1]
  exact rpiece_ctl s h1 (by omega) W
 rw[if_neg c1]
 by_cases c2:s[0]≠92
 ·rw[if_pos c2]
  exact rpiece_sig s hs h1 (by omega) (fun h=>c2 ((u8_int (by decide)).2 h)) W _ rfl
 rw[if_neg c2]
 have e0:(s[0].toNat:Int)=92:=(u8_int (by decide)).1 (Decidable.not_not.1 c2)
 by_cases c3:s.data.toList.length=1
 ·rw[if_pos c3]
  exact rpiece_one s c3 e0 W
 rw[if_neg c3]
 have h2:2≤s.size:=by have:¬ s.size=1:=c3;omega
 rw[getD_at s 1 (by omega)]
 by_cases c4:s[1]≠117
 ·rw [if_pos c4]
  have e1:¬ (s[1].toNat:Int)=117:=fun h=>c4 ((u8_int (by decide)).2 h)
  by_cases c5:letR s[1]=0
  ·rw[if_pos c5]
   exact rpiece_let0 s hs h2 e0 e1 c5 W
  ·rw[if_neg c5]
   exact rpiece_let s hs h2 e0 e1 _ rfl (fun h=>c5 ((u8_int (n:=0) (by decide)).2 h)) W
 rw[if_neg c4]
 have e1:(s[1].toNat:Int)=117:=(u8_int (by decide)).1 (Decidable.not_not.1 c4)
 obtain ⟨n,v,k,hu⟩:∃ n v k,unitR s.data.toList false=(n,v,k):=⟨_,_,_,rfl⟩
 have b1:=(unitR_bd s.data.toList false).1
 have l1:=unitR_len s.data.toList false
 rw[hu] at b1 l1
 rw[hu]
 simp only []
 have b1:n≤6:=b1
 by_cases c5:k≠0∨n<6
 ·rw[if_pos c5]
  exact rpiece_bad1 s hs h2 e0 e1 n v k hu (by omega) W
 rw[if_neg c5]
 obtain ⟨rfl,rfl⟩:n=6∧k=0:=by omega
 have h6:6≤s.size:=l1 rfl
 by_cases c6:v<55296∨56319<v
 ·rw[if_pos c6]
  exact rpiece_u s hs h2 e0 e1 v hu (by omega) W
 rw[if_neg c6]
 obtain ⟨n2,x,k2,hu2⟩:∃ n v k,unitR (s.data.toList.drop 6) true=(n,v,k):=⟨_,_,_,rfl⟩
 have b2:=(unitR_bd (s.data.toList.drop 6) true).1
 rw[hu2] at b2
 rw[hu2]
 simp only []
 have b2:n2≤6:=b2
 by_cases c7:k2≠0∨n2<6
 ·rw[if_pos c7]
  exact rpiece_bad2 s hs h6 e0 e1 v hu (by omega) (by omega) n2 x k2 hu2 (by omega) W
 rw[if_neg c7]
 obtain ⟨rfl,rfl⟩:n2=6∧k2=0:=by omega
 exact rpiece_pair s hs h6 e0 e1 v hu (by omega) (by omega) x hu2 W
end
section
open Go.RowKit
theorem sigR_bd:∀ (l:List UInt8) (sg lf:Int) (k:Nat),k≤(sigR sg lf l k).1∧(sigR sg lf l k).1≤k+l.length∧((sigR sg lf l k).2.2=true→k+1≤(sigR sg lf l k).1∧(sigR sg lf l k).2.1=0)
 | [],sg,lf,k=>⟨Nat.le_refl _,Nat.le_refl _,fun h=>by cases h⟩
 | c :: t,sg,lf,k=>by
   have e:sigR sg lf (c :: t) k=if okU sg lf c.toNat then (if lfU lf c.toNat=0 then (k+1,0,true) else sigR (sgU sg lf c.toNat) (lfU lf c.toNat) t (k+1)) else (k,2,false):=rfl
   rw[e,List.length_cons]
   split
   ·split
    ·exact ⟨Nat.le_succ _,by show k+1≤_;omega,fun _=>⟨Nat.le_refl _,rfl⟩⟩
    ·have:=sigR_bd t (sgU sg lf c.toNat) (lfU lf c.toNat) (k+1)
     exact ⟨by omega,by omega,fun h=>⟨by have:=(this.2.2 h).1;omega,(this.2.2 h).2⟩⟩
   ·exact ⟨Nat.le_refl _,Nat.le_add_right _ _,fun h=>by cases h⟩
theorem ofB_four (m:Int):(ofB m).length≤4:=by
 rw[ofB_len2]
 unfold ofI
 (repeat' split)<;>simp
theorem pieceX_bd (l:List UInt8) (h:1≤l.length):(pieceX l).2.1≤l.length∧((pieceX l).2.2.2=true→1≤(pieceX l).2.1∧(pieceX l).1.length≤(pieceX l).2.1∧(pieceX l).2.2.1=0):=by
 unfold pieceX
 split
 ·exact ⟨Nat.zero_le _,fun h=>by cases h⟩
 split
 ·obtain ⟨g1,g2,g3⟩:=sigR_bd l 0 0 0
  refine ⟨by show (sigR 0 0 l 0).1≤_;omega,fun hw => ?_⟩
  have hw:(sigR 0 0 l 0).2.2=true:=hw
  obtain ⟨g4,g5⟩:=g3 hw
  refine ⟨by show 1≤(sigR 0 0 l 0).1;omega,?_,g5⟩
  show (if (sigR 0 0 l 0).2.2 then l.take (sigR 0 0 l 0).1 else []).length≤(sigR 0 0 l 0).1
  rw[hw,if_pos rfl,List.length_take]
  omega
 split
 ·exact ⟨h,fun h=>by cases h⟩
 split
 ·split
  ·exact ⟨h,fun h=>by cases h⟩
  ·exact ⟨by show 2≤l.length;omega,fun _=>⟨by show 1≤2;omega,by show 1≤2;omega,rfl⟩⟩
 obtain ⟨u1,u2,u3⟩:=unitR_bd l false
 obtain ⟨v1,v2,v3⟩:=unitR_bd (l.drop 6) true
 rw[List.length_drop] at v2
 have f1:=ofB_four (fixI (unitR l false).2.1)
 have f2:=ofB_four (fixI (65536+((unitR l false).2.1-55296)*1024+(unitR (l.drop 6) true).2.1-56320))
 split
 ·exact ⟨u2,fun h=>by cases h⟩
 split
 ·exact ⟨by show 6≤l.length;omega,fun _=>⟨by show 1≤6;omega,by show (ofB _).length≤6;omega,rfl⟩⟩
 split
 ·exact ⟨by show 6+_≤l.length;omega,fun h=>by cases h⟩
 ·exact ⟨by show 12≤l.length;omega,fun _=>⟨by show 1≤12;omega,by show (ofB _).length≤12;omega,rfl⟩⟩
theorem scanR_step (f:Nat) (l:List UInt8) (h:1≤l.length):scanR (f+1) l=if l.getD 0 0=34 then ([],1,1) else if (pieceX l).2.2.1≠0∨(pieceX l).2.2.2=false then ([],(pieceX l).2.1,(pieceX l).2.2.1)
   else ((pieceX l).1++(scanR f (l.drop (pieceX l).2.1)).1,(pieceX l).2.1+(scanR f (l.drop (pieceX l).2.1)).2.1,(scanR f (l.drop (pieceX l).2.1)).2.2):=by
 have hne:l≠[]:=fun e=>by rw[e] at h;simp at h
 conv=>lhs;unfold scanR
 rw[if_neg hne]
theorem scanR_nil (f:Nat):scanR f []=([],0,0):=by cases f<;>rfl
def RelSc (s:ByteArray) (W wr:World) (o a:Value):Prop :=
 ∃ (k f:Nat) (d:List UInt8),k≤s.size∧a=.int .i64 k∧Buf wr W.heap.size o d∧d.length≤k∧s.size-k≤f ∧
   scanL s.data.toList=(d++(scanR f (s.data.toList.drop k)).1,k+(scanR f (s.data.toList.drop k)).2.1,(scanR f (s.data.toList.drop k)).2.2)∧Below W.heap.size W wr
def ScanP (W:World)(t:List UInt8×Nat×Int)(e:Ending)(w':World):Prop:=e=.returned (.tuple #[.string ⟨t.1.toArray⟩,.int .i64 t.2.1,.int .i64 t.2.2])∧Below W.heap.size W w'
theorem rscan_any (s:ByteArray) (hs:s.size≤100000) (W:World):Calls Tryz.prog 68 #[.string s] W fun e w'=>ScanP W (scanL s.data.toList) e w':=by
 have hsl:s.data.toList.length=s.size:=rfl
 go_enter Tryz.func68,Tryz.ntmps68
 go_wp2
 go_loopw [5,6] (fun o a wr=>RelSc s W wr o a) (fun _ a _=>s.size-(intOf a).toNat)
 case atStart=>exact ⟨0,s.size,[],Nat.zero_le _,rfl,Buf.made W _ [] rfl (by decide) (Nat.le_refl _),Nat.le_refl _,by omega,(by show scanR s.data.toList.length s.data.toList=_;rw[hsl,List.drop_zero];simp),(Below.refl _ _).alloc (Nat.le_refl _) _⟩
 case round =>
   obtain ⟨k,f,d,hk,rfl,hbuf,hd,hf,hsc,hbel⟩:=hrel
   have kc:=hbuf.conv
   by_cases hlt:k<s.size
   ·obtain ⟨g, rfl⟩:∃ g,f=g+1:=⟨f-1,by omega⟩
    have hdl:(s.data.toList.drop k).length=s.size-k:=by rw[List.length_drop,hsl]
    have hg0:(s.data.toList.drop k).getD 0 0=s[k]:=by rw[drop_at s k hlt];rfl
    rw[scanR_step g (s.data.toList.drop k) (by omega),hg0] at hsc
    by_cases hq:s[k]=34
    ·have hqi:(s[k].toNat:Int)=34:=(u8_int (by decide)).1 hq
     rw[if_pos hq] at hsc
     have HS:=hid hsc
     clear hsc hg0
     go_wp2
     go_ret3
     rw[HS.out]
     exact ⟨(by show _=Ending.returned (.tuple #[.string ⟨(d++[]).toArray⟩,.int .i64 ((k+1:Nat):Int),.int .i64 1]);rw[List.append_nil];go_num),hbel⟩
    ·have hqi : ¬ (s[k].toNat:Int)=34:=fun h=>hq ((u8_int (by decide)).2 h)
     rw[if_neg hq] at hsc
     have HP:=hid (fun w=>(show Calls _ _ _ _ _ from rpieceX_any (s.extract k s.size) (by rw[(tail_is s k).2];omega) (by rw[(tail_is s k).2];omega) w))
     rw[(tail_is s k).1] at HP
     obtain ⟨pb1,pb2⟩:=pieceX_bd (s.data.toList.drop k) (by omega)
     rw[hdl] at pb1
     obtain ⟨bs,n,kd,wh,hp⟩:∃ bs n kd wh,pieceX (s.data.toList.drop k)=(bs,n,kd,wh):=⟨_,_,_,_,rfl⟩
     rw[hp] at hsc HP pb1 pb2
     have pb1:n≤s.size-k:=pb1
     have pb2:wh=true→1≤n∧bs.length≤n∧kd=0:=pb2
     simp only [] at hsc
     clear hp hg0
     by_cases hkd:kd=0
     ·subst hkd
      cases wh
      ·rw[if_pos (.inr rfl)] at hsc
       have HS:=hid hsc
       clear hsc pb2
       go_wp2_with (go_at_call 97;refine (HP.out _).mono ?_;rintro e w3 ⟨A3,c3,rfl,hr3,hb⟩;have hb3:=hbuf.stay hb (Nat.le_refl _);have kc3:=hb3.conv)
       go_ret3
       rw[HS.out]
       exact ⟨(by show _=Ending.returned (.tuple #[.string ⟨(d++[]).toArray⟩,.int .i64 ((k+n:Nat):Int),.int .i64 0]);rw[List.append_nil];go_num),hbel.trans (hb.mono hbel.size)⟩
      ·obtain ⟨n1,n2,_⟩:=pb2 rfl
       rw[if_neg (by simp)] at hsc
       have HS:=hid hsc
       clear hsc pb2
       go_wp2_with (first
         | (go_at_call 97;refine (HP.out _).mono ?_;rintro e w3 ⟨A3,c3,rfl,hr3,hb⟩;have hb3:=hbuf.stay hb (Nat.le_refl _);have hz3:=Nat.le_trans hbel.size hb.size)
         | (at_builtin
            go_must (
              refine buf_append _ rfl (.tmp 45) (.tmp 46) rfl W.heap.size _ d rfl hb3 _ A3 bs.length c3 bs rfl hr3 (by omega) hz3 ?_
              intro v4 w4 hbuf4 hb4)))
       go_roundw
       case rel=>exact ⟨k+n,g,d++bs,by omega,by go_num,hbuf4,(by rw[List.length_append];omega),by omega,(by rw[HS.out,List.drop_drop];simp;omega),(hbel.trans (hb.mono hbel.size)).trans hb4⟩
       case measure=>simp[intOf];omega
     ·rw[if_pos (.inl hkd)] at hsc
      have HS:=hid hsc
      clear hsc pb2
      go_wp2_with (go_at_call 97;refine (HP.out _).mono ?_;rintro e w3 ⟨A3,c3,rfl,hr3,hb⟩;have hb3:=hbuf.stay hb (Nat.le_refl _);have kc3:=hb3.conv)
      go_ret3
      rw[HS.out]
      exact ⟨(by show _=Ending.returned (.tuple #[.string ⟨(d++[]).toArray⟩,.int .i64 ((k+n:Nat):Int),.int .i64 kd]);rw[List.append_nil];go_num),hbel.trans (hb.mono hbel.size)⟩
   ·have hks:¬ (k:Int)<s.size:=by omega
    rw[drop_none s k (by omega),scanR_nil] at hsc
    have HS:=hid hsc
    clear hsc
    go_wp2
    go_ret3
    rw[HS.out]
    exact ⟨(by show _=Ending.returned (.tuple #[.string ⟨(d++[]).toArray⟩,.int .i64 ((k+0:Nat):Int),.int .i64 0]);rw[List.append_nil];rfl),hbel⟩
end
section
open Go.RowKit
theorem part_size:(Tryz.prog.info? 85).map (·.size)=some 9:=by kernel_rfl
def zero9:Array Value:=#[.int .i64 0,.int .i64 0,.int .i64 0,.string ⟨#[]⟩,.slice none 0 0,.slice none 0 0,.bool false,.int .i64 0,.int .i64 0]
def cells9 (kd fr t:Int)(tx:ByteArray)(A:Option Addr)(n c:Nat)(B:Option Addr)(m d:Nat)(b:Bool)(k f:Int):Array Value:=#[.int .i64 kd,.int .i64 fr,.int .i64 t,.string tx,.slice A n c,.slice B m d,.bool b,.int .i64 k,.int .i64 f]
def put9 (w:World) (g:Nat) (kd fr t:Int) (tx:ByteArray) (A:Option Addr) (n c:Nat) (B:Option Addr) (m d:Nat) (b:Bool) (k f:Int):World :=
 ((((((((w.setCell ⟨g,0,none⟩ (.int .i64 kd)).setCell ⟨g,1,none⟩ (.int .i64 fr)).setCell ⟨g,2,none⟩ (.int .i64 t)).setCell ⟨g,3,none⟩ (.string tx)).setCell ⟨g,4,none⟩ (.slice A n c)).setCell ⟨g,5,none⟩ (.slice B m d)).setCell ⟨g,6,none⟩ (.bool b)).setCell ⟨g,7,none⟩ (.int .i64 k)).setCell ⟨g,8,none⟩ (.int .i64 f)
theorem put9_own {w:World} {g:Nat} {T:TypeId} (h:Own w g T zero9) (kd fr t:Int) (tx:ByteArray) (A:Option Addr) (n c:Nat) (B:Option Addr) (m d:Nat) (b:Bool) (k f:Int):Own (put9 w g kd fr t tx A n c B m d b k f) g T (cells9 kd fr t tx A n c B m d b k f):=by
 have:=((((((((h.put 0 (.int .i64 kd)).put 1 (.int .i64 fr)).put 2 (.int .i64 t)).put 3 (.string tx)).put 4 (.slice A n c)).put 5 (.slice B m d)).put 6 (.bool b)).put 7 (.int .i64 k)).put 8 (.int .i64 f)
 unfold put9
 simpa [zero9,cells9] using this
theorem put9_below {w0 w:World} {g:Nat} (h:Below g w0 w) (kd fr t:Int) (tx:ByteArray) (A:Option Addr) (n c:Nat) (B:Option Addr) (m d:Nat) (b:Bool) (k f:Int):Below g w0 (put9 w g kd fr t tx A n c B m d b k f) :=
 ((((((((h.setCell (p:=⟨g,0,none⟩) (Nat.le_refl _) _).setCell (p:=⟨g,1,none⟩) (Nat.le_refl _) _).setCell (p:=⟨g,2,none⟩) (Nat.le_refl _) _).setCell (p:=⟨g,3,none⟩) (Nat.le_refl _) _).setCell (p:=⟨g,4,none⟩) (Nat.le_refl _) _).setCell (p:=⟨g,5,none⟩) (Nat.le_refl _) _).setCell (p:=⟨g,6,none⟩) (Nat.le_refl _) _).setCell (p:=⟨g,7,none⟩) (Nat.le_refl _) _).setCell (p:=⟨g,8,none⟩) (Nat.le_refl _) _
theorem nine_facts {w:World} {g:Nat} {T:TypeId} (h:Own w g T zero9) :
   w.cell? ⟨g,0,none⟩=some (.int .i64 0)∧w.cell? ⟨g,1,none⟩=some (.int .i64 0)∧w.cell? ⟨g,2,none⟩=some (.int .i64 0)∧w.cell? ⟨g,3,none⟩=some (.string ⟨#[]⟩)∧w.cell? ⟨g,4,none⟩=some (.slice none 0 0) ∧
   w.cell? ⟨g,5,none⟩=some (.slice none 0 0)∧w.cell? ⟨g,6,none⟩=some (.bool false)∧w.cell? ⟨g,7,none⟩=some (.int .i64 0)∧w.cell? ⟨g,8,none⟩=some (.int .i64 0) ∧
   w.frozen? ⟨g,0,none⟩=false∧w.frozen? ⟨g,1,none⟩=false∧w.frozen? ⟨g,2,none⟩=false∧w.frozen? ⟨g,3,none⟩=false∧w.frozen? ⟨g,4,none⟩=false∧w.frozen? ⟨g,5,none⟩=false∧w.frozen? ⟨g,6,none⟩=false∧w.frozen? ⟨g,7,none⟩=false∧w.frozen? ⟨g,8,none⟩=false :=
 ⟨h.at 0,h.at 1,h.at 2,h.at 3,h.at 4,h.at 5,h.at 6,h.at 7,h.at 8,h.free 0,h.free 1,h.free 2,h.free 3,h.free 4,h.free 5,h.free 6,h.free 7,h.free 8⟩
theorem rbroken_any (kd fr t:Int) (tx:ByteArray) (A:Option Addr) (n c:Nat) (B:Option Addr) (m d:Nat) (kind k:Int) (W:World) :
   Calls Tryz.prog 69 #[.agg #[.int .i64 kd,.int .i64 fr,.int .i64 t,.string tx,.slice A n c,.slice B m d],.int .i64 kind,.int .i64 k] W
     fun e w'=>e=.returned (.agg #[.int .i64 kd,.int .i64 fr,.int .i64 0,.string tx,.slice A n c,.slice B m d,.bool true,.int .i64 k,.int .i64 kind])∧Below W.heap.size W w':=by
 go_enter Tryz.func69,Tryz.ntmps69
 go_wp2
 refine bodyPost_ret (results_cell_row rfl _ _ (W.heap.size+1) _ _ (0,0) _ rfl (heap_alloc2_new W _ _) Tryz.underlying85 rfl part_size) rfl ?_
 exact ⟨rfl,below2 _ _ _⟩
theorem two_calls {W w3 w4:World} {T:TypeId} {cs:Array Value} {o:Obj} (hb:Below (W.alloc (.cells cs T)).heap.size (W.alloc (.cells cs T)) w3) (hb4:Below (w3.alloc o).heap.size (w3.alloc o) w4):Own w4 W.heap.size T cs∧Below W.heap.size W w4:=by
 have o0:=Own.fresh W T cs
 have o3:=o0.stay hb o0.inside
 have o3':=o3.over o
 have b0:=below1 W (.cells cs T)
 have b3:=b0.trans (hb.mono b0.size)
 have b3':=b3.trans ((below1 w3 o).mono b3.size)
 exact ⟨o3'.stay hb4 o3'.inside,b3'.trans (hb4.mono b3'.size)⟩
theorem one_call {W w3:World} {T:TypeId} {cs:Array Value} (hb:Below (W.alloc (.cells cs T)).heap.size (W.alloc (.cells cs T)) w3):Own w3 W.heap.size T cs∧Below W.heap.size W w3:=by
 have o0:=Own.fresh W T cs
 have b0:=below1 W (.cells cs T)
 exact ⟨o0.stay hb o0.inside,b0.trans (hb.mono b0.size)⟩
def VKept (B E:Nat)(w:World)(t:Tree)(x:V6):Prop:=∀ u:World,(∀ b,B≤b→b<E→u.heap[b]?=w.heap[b]?)→VIs u t x
def PartP (W:World) (p:PartR) (e:Ending) (w':World):Prop :=
 ∃ x:V6,e=.returned (.agg #[.int .i64 x.kd,.int .i64 x.fr,.int .i64 x.to,.string ⟨x.tx.toArray⟩,.slice x.A x.n x.c,.slice x.B x.m x.d,.bool p.beg,.int .i64 p.pt,.int .i64 p.fault])∧VKept W.heap.size w'.heap.size w' p.val x∧Below W.heap.size W w'
def leafV (kd:Int)(fr t:Nat)(tx:List UInt8):V6:=⟨kd,fr,t,tx,none,0,0,none,0,0⟩
theorem RdG.empty {α:Type}(K:RowK α)(w:World):RdG K w none 0 []:=⟨rfl,fun h=>absurd h (Nat.lt_irrefl 0)⟩
theorem leaf_is (w:World) (kd:Int) (fr t:Nat) (tx:List UInt8):VIs w (.mk kd fr t tx [] []) (leafV kd fr t tx):=by
 unfold VIs
 exact ⟨rfl,rfl,rfl,rfl,Nat.le_refl _,Nat.le_refl _,RdG.empty _ _,[],RdG.empty _ _,by unfold VLs;rfl⟩
theorem scanR_bd (f:Nat):∀ l:List UInt8,(scanR f l).2.1≤l.length∧(scanR f l).1.length≤l.length:=by
 induction f with
 | zero=>intro l;exact ⟨Nat.zero_le _,Nat.zero_le _⟩
 | succ f ih =>
   intro l
   cases l with
   | nil=>exact ⟨Nat.zero_le _,Nat.zero_le _⟩
   | cons c t =>
     rw[scanR_step f (c :: t) (by simp)]
     obtain ⟨p1,p2⟩:=pieceX_bd (c :: t) (by simp)
     split
     ·exact ⟨by simp,by simp⟩
     split
     ·exact ⟨p1,by simp⟩
     ·rename_i h
      have hw:(pieceX (c :: t)).2.2.2=true:=by
        cases hh:(pieceX (c :: t)).2.2.2
        ·exact absurd (.inr hh) h
        ·rfl
      obtain ⟨p3,p4,_⟩:=p2 hw
      obtain ⟨q1,q2⟩:=ih ((c :: t).drop (pieceX (c :: t)).2.1)
      rw[List.length_drop] at q1 q2
      refine ⟨?_,?_⟩
      ·show (pieceX (c :: t)).2.1+_≤_;omega
      ·show ((pieceX (c :: t)).1++_).length≤_;rw[List.length_append];omega
theorem rquoted_any (s:ByteArray) (k:Nat) (hs:s.size≤100000) (hk:k<s.size) (W:World) (P:PartR) (hP:quotedR s.data.toList k=P) :
   Calls Tryz.prog 47 #[.string s,.int .i64 k] W fun e w'=>PartP W P e w':=by
 have hsl:s.data.toList.length=s.size:=rfl
 have HC:=hid (fun w=>rscan_any (s.extract (k+1) s.size) (by rw[(tail_is s (k+1)).2];omega) w)
 rw[(tail_is s (k+1)).1] at HC
 have hb:=scanR_bd (s.data.toList.drop (k+1)).length (s.data.toList.drop (k+1))
 rw[List.length_drop,hsl] at hb
 unfold quotedR at hP
 have hb1:(scanL (s.data.toList.drop (k+1))).2.1≤s.size-(k+1):=by
   have:=hb.1
   unfold scanL
   rw[List.length_drop,hsl]
   exact this
 obtain ⟨tx,n,kd,hp⟩:∃ tx n kd,scanL (s.data.toList.drop (k+1))=(tx,n,kd):=⟨_,_,_,rfl⟩
 rw[hp] at hP HC hb1
 simp only [] at hP
 have hb1:n≤s.size-(k+1):=hb1
 clear hp hb
 by_cases h0:kd=0
 ·rw [if_pos h0] at hP
  subst h0
  have HP:=hid hP
  have HB:=hid (fun (kk f:Int) (w:World)=>rbroken_any 3 k 0 ⟨#[]⟩ none 0 0 none 0 0 kk f w)
  clear hP
  go_enter Tryz.func47,Tryz.ntmps47
  go_wp2_with (first
    | (go_at_call 68
       go_must (
         refine (HC.out _).mono ?_
         rintro e w3 ⟨rfl,hb⟩))
    | (go_at_call 69
       go_must (
         refine (HB.out 10 s.size _).mono ?_
         rintro e w4 ⟨rfl,hb4⟩
         obtain ⟨o4,c4⟩:=two_calls hb hb4
         have o4:Own w4 W.heap.size 85 zero9:=o4
         obtain ⟨p0,p1,p2,p3,p4,p5,p6,p7,p8,f0,f1,f2,f3,f4,f5,f6,f7,f8⟩:=nine_facts o4
         have hO:=put9_own o4 3 k 0 ⟨#[]⟩ none 0 0 none 0 0 true s.size 10
         have hT:=put9_below c4 3 k 0 ⟨#[]⟩ none 0 0 none 0 0 true s.size 10
         unfold put9 at hO hT
         have HO:=hid hO
         have HT:=hid hT
         clear hO hT o4 c4 hb hb4)))
  refine bodyPost_ret (results_cell_row rfl _ _ W.heap.size _ _ (0,0) _ rfl HO.out Tryz.underlying85 rfl part_size) rfl ?_
  rw[← HP.out]
  exact ⟨leafV 3 k 0 [],rfl,(fun _ _=>leaf_is _ _ _ _ _),HT.out⟩
 ·rw [if_neg h0] at hP
  by_cases h1:kd=1
  ·subst h1
   rw[if_neg (by decide)] at hP
   have HP:=hid hP
   clear hP
   go_enter Tryz.func47,Tryz.ntmps47
   go_wp2_with (first
     | (go_at_call 68
        go_must (
          refine (HC.out _).mono ?_
          rintro e w3 ⟨rfl,hb⟩
          obtain ⟨o3,c3⟩:=one_call hb
          have o3:Own w3 W.heap.size 85 zero9:=o3
          have o4:=o3.over (.cells #[.int .i64 3,.int .i64 k,.int .i64 ((k:Int)+1+n),.string ⟨tx.toArray⟩,.slice none 0 0,.slice none 0 0] 27)
          have c4:=c3.alloc c3.size (.cells #[.int .i64 3,.int .i64 k,.int .i64 ((k:Int)+1+n),.string ⟨tx.toArray⟩,.slice none 0 0,.slice none 0 0] 27)
          obtain ⟨p0,p1,p2,p3,p4,p5,p6,p7,p8,f0,f1,f2,f3,f4,f5,f6,f7,f8⟩:=nine_facts o4
          have hO:=put9_own o4 3 k ((k:Int)+1+n) ⟨tx.toArray⟩ none 0 0 none 0 0 true ((k:Int)+1+n) 0
          have hT:=put9_below c4 3 k ((k:Int)+1+n) ⟨tx.toArray⟩ none 0 0 none 0 0 true ((k:Int)+1+n) 0
          unfold put9 at hO hT
          have HO:=hid hO
          have HT:=hid hT
          clear hO hT o4 c4 o3 c3 hb)))
   refine bodyPost_ret (results_cell_row rfl _ _ W.heap.size _ _ (0,0) _ rfl HO.out Tryz.underlying85 rfl part_size) rfl ?_
   rw[← HP.out]
   exact ⟨leafV 3 k (k+1+n) tx,rfl,(fun _ _=>leaf_is _ _ _ _ _),HT.out⟩
  ·rw [if_pos h1] at hP
   have HP:=hid hP
   have HB:=hid (fun (kk f:Int) (w:World)=>rbroken_any 3 k 0 ⟨#[]⟩ none 0 0 none 0 0 kk f w)
   clear hP
   go_enter Tryz.func47,Tryz.ntmps47
   go_wp2_with (first
     | (go_at_call 68
        go_must (
          refine (HC.out _).mono ?_
          rintro e w3 ⟨rfl,hb⟩))
     | (go_at_call 69
        go_must (
          refine (HB.out kd ((k:Int)+1+n) _).mono ?_
          rintro e w4 ⟨rfl,hb4⟩
          obtain ⟨o4,c4⟩:=two_calls hb hb4
          have o4:Own w4 W.heap.size 85 zero9:=o4
          obtain ⟨p0,p1,p2,p3,p4,p5,p6,p7,p8,f0,f1,f2,f3,f4,f5,f6,f7,f8⟩:=nine_facts o4
          have hO:=put9_own o4 3 k 0 ⟨#[]⟩ none 0 0 none 0 0 true ((k:Int)+1+n) kd
          have hT:=put9_below c4 3 k 0 ⟨#[]⟩ none 0 0 none 0 0 true ((k:Int)+1+n) kd
          unfold put9 at hO hT
          have HO:=hid hO
          have HT:=hid hT
          clear hO hT o4 c4 hb hb4)))
   refine bodyPost_ret (results_cell_row rfl _ _ W.heap.size _ _ (0,0) _ rfl HO.out Tryz.underlying85 rfl part_size) rfl ?_
   rw[← HP.out]
   exact ⟨leafV 3 k 0 [],rfl,(fun _ _=>leaf_is _ _ _ _ _),HT.out⟩
end
section
open Go.RowKit
def leaf6 (kd fr:Int):Array Value:=#[.int .i64 kd,.int .i64 fr,.int .i64 0,.string ⟨#[]⟩,.slice none 0 0,.slice none 0 0]
theorem leaf_facts {w:World} {g:Nat} {T:TypeId} {kd fr:Int} (h:Own w g T (leaf6 kd fr)) :
   w.cell? ⟨g,0,none⟩=some (.int .i64 kd)∧w.cell? ⟨g,1,none⟩=some (.int .i64 fr)∧w.cell? ⟨g,2,none⟩=some (.int .i64 0)∧w.cell? ⟨g,3,none⟩=some (.string ⟨#[]⟩)∧w.cell? ⟨g,4,none⟩=some (.slice none 0 0)∧w.cell? ⟨g,5,none⟩=some (.slice none 0 0) ∧
   w.frozen? ⟨g,0,none⟩=false∧w.frozen? ⟨g,1,none⟩=false∧w.frozen? ⟨g,2,none⟩=false∧w.frozen? ⟨g,3,none⟩=false∧w.frozen? ⟨g,4,none⟩=false∧w.frozen? ⟨g,5,none⟩=false :=
 ⟨h.at 0,h.at 1,h.at 2,h.at 3,h.at 4,h.at 5,h.free 0,h.free 1,h.free 2,h.free 3,h.free 4,h.free 5⟩
structure Mk (W:World) (kd fr:Int) (w:World):Prop where
 part:Own w W.heap.size 85 zero9
 val:Own w (W.heap.size+1) 27 (leaf6 kd fr)
 bel:Below W.heap.size W w
theorem Mk.start (W:World) (kd fr:Int):Mk W kd fr ((W.alloc (.cells zero9 85)).alloc (.cells (leaf6 kd fr) 27)):=by
 refine ⟨(Own.fresh W _ zero9).over _,?_,below2 _ _ _⟩
 have:=Own.fresh (W.alloc (.cells zero9 85)) 27 (leaf6 kd fr)
 simpa using this
theorem Mk.stay {W w w':World}{kd fr:Int}(h:Mk W kd fr w)(hb:Below w.heap.size w w'):Mk W kd fr w':=⟨h.part.stay hb h.part.inside,h.val.stay hb h.val.inside,h.bel.trans (hb.mono h.bel.size)⟩
theorem Mk.drew {W w:World}{kd fr:Int}(h:Mk W kd fr w):Mk W kd fr w.drew:=⟨h.part,h.val,h.bel.drew⟩
theorem Mk.done {W w:World} {kd fr:Int} (h:Mk W kd fr w) (t:Int) (tx:ByteArray) (k:Int) :
   Own (put9 ((w.setCell ⟨W.heap.size+1,2,none⟩ (.int .i64 t)).setCell ⟨W.heap.size+1,3,none⟩ (.string tx)) W.heap.size kd fr t tx none 0 0 none 0 0 true k 0) W.heap.size 85 (cells9 kd fr t tx none 0 0 none 0 0 true k 0) ∧
   Below W.heap.size W (put9 ((w.setCell ⟨W.heap.size+1,2,none⟩ (.int .i64 t)).setCell ⟨W.heap.size+1,3,none⟩ (.string tx)) W.heap.size kd fr t tx none 0 0 none 0 0 true k 0) :=
 ⟨put9_own ((h.part.past (by simp) _).past (by simp) _) _ _ _ _ _ _ _ _ _ _ _ _ _,
  put9_below ((h.bel.setCell (p:=⟨W.heap.size+1,2,none⟩) (Nat.le_succ _) _).setCell (p:=⟨W.heap.size+1,3,none⟩) (Nat.le_succ _) _) _ _ _ _ _ _ _ _ _ _ _ _ _⟩
theorem Mk.broke {W w w4:World} {kd fr:Int} (h:Mk W kd fr w) (hb:Below w.heap.size w w4) (kk f:Int) :
   Own w4 W.heap.size 85 zero9∧Own (put9 w4 W.heap.size kd fr 0 ⟨#[]⟩ none 0 0 none 0 0 true f kk) W.heap.size 85 (cells9 kd fr 0 ⟨#[]⟩ none 0 0 none 0 0 true f kk) ∧
   Below W.heap.size W (put9 w4 W.heap.size kd fr 0 ⟨#[]⟩ none 0 0 none 0 0 true f kk) :=
 ⟨(h.stay hb).part,put9_own (h.stay hb).part _ _ _ _ _ _ _ _ _ _ _ _ _,put9_below (h.stay hb).bel _ _ _ _ _ _ _ _ _ _ _ _ _⟩
end
section
open Go.RowKit
theorem numW_cons (s:ByteArray) (j n:Nat) (h:j<s.size) (a:Int):numW a (s.data.toList.drop j) n=if nxI a s[j].toNat≠0 then numW (nxI a s[j].toNat) (s.data.toList.drop (j+1)) (n+1) else (n,anI a s[j].toNat,a):=by
 rw[drop_at s j h]
 rfl
def RelNb (s:ByteArray) (k:Nat) (cl:Bool) (W wr:World) (v u:Value):Prop :=
 ∃ (n:Nat) (a:Int),k+n≤s.size∧v=.int .i64 n∧u=.bool cl∧At a ((s.data.toList.drop k).take n)∧numW 0 (s.data.toList.drop k) 0=numW a (s.data.toList.drop (k+n)) n∧Mk W 2 k wr
set_option maxHeartbeats 16000000 in
theorem rnumR_any (s:ByteArray) (k:Nat) (cl:Bool) (hs:s.size≤50000) (hk:k<s.size) (W:World) (P:PartR) (hP:numberR s.data.toList cl k=P) :
   Calls Tryz.prog 48 #[.string s,.int .i64 k,.bool cl] W fun e w'=>PartP W P e w':=by
 have hsl:s.data.toList.length=s.size:=rfl
 have HB:=hid (fun (kk f:Int) (w:World)=>rbroken_any 2 k 0 ⟨#[]⟩ none 0 0 none 0 0 kk f w)
 unfold numberR at hP
 have HP:=hid hP
 clear hP
 go_enter Tryz.func48,Tryz.ntmps48
 go_wp2
 go_loopw [7,8] (fun v u wr=>RelNb s k cl W wr v u) (fun v _ _=>s.size-k-(intOf v).toNat)
 case atStart=>exact ⟨0,0,by omega,rfl,rfl,at_nil,rfl,Mk.start W 2 k⟩
 case round =>
   obtain ⟨n,a,hkn,rfl,rfl,hat,hnum,hmk⟩:=hrel
   have hxl:(s.extract k (k+n)).data.toList=(s.data.toList.drop k).take n:=part_is s k n
   have hxz:(s.extract k (k+n)).size=n:=by rw[ByteArray.size_extract];omega
   have hdl:(s.data.toList.drop k).length=s.size-k:=by rw[List.length_drop,hsl]
   by_cases hlt:k+n<s.size
   ·rw [numW_cons s (k+n) n hlt] at hnum
    have HS:=fun w=>rstep_at (s.extract k (k+n)) s[k+n] a (by rw[hxl];exact hat) w (by rw[hxz];omega)
    have hmd:=hmk.drew
    by_cases hok:nxI a s[k+n].toNat=0
    ·rw [if_neg (fun h=>h hok)] at hnum
     have han:anI a s[k+n].toNat=1∧whI a=true∨anI a s[k+n].toNat=2:=by
       unfold anI
       rw[if_neg (fun h=>h hok)]
       by_cases hw:(whI a && !stickI s[k+n].toNat)=true
       ·rw[if_pos hw];exact .inl ⟨rfl,(Bool.and_eq_true _ _▸hw).1⟩
       ·rw[if_neg hw];exact .inr rfl
     rcases han with ⟨han,hwh⟩|han
     ·rw [han] at hnum HS
      rw[hnum] at HP
      rw[if_neg (show ¬ (1:Int)=2 by decide),if_neg (by rintro (⟨_,h⟩|h);exact absurd (show (1:Int)=0 from h) (by decide);rw[show whI a=true from hwh] at h;cases h)] at HP
      have hi:=fun w=>ris_any (s.extract k (k+n)) w (by rw[hxz];omega)
      rw[hxl,at_is hat,hwh] at hi
      have HI:=hid hi
      have HX:=hid hxl
      have HS:=hid HS
      have HM:=hid hmd
      clear hat hnum hok hmk hmd hxl hi
      go_wp2
      have hwk:IntKind.i64.wrap ((k:Int)+n)=(k:Int)+n:=by rw[IntKind.wrap_i64];omega
      have hw0:(0:Int)≤(k:Int)+n:=by omega
      have hw1:(k:Int)+n≤s.size:=by omega
      have hw2:(k:Int)≤(k:Int)+n:=by omega
      have hw3:((k:Int)+n).toNat=k+n:=by omega
      go_still_tail 11,(by kernel_rfl)
      change wpList _ _ _ _ _ wr.drew
      go_upto_region 15 with (first
        | (go_at_call 70
           go_must (
             refine (HS.out _).mono ?_
             rintro e w3 ⟨rfl,hb⟩
             have M3:=HM.out.stay hb
             obtain ⟨v0,v1,v2,v3,v4,v5,u0,u1,u2,u3,u4,u5⟩:=leaf_facts M3.val
             clear hb))
        | (go_at_call 71;refine (HI.out _).mono ?_;rintro e w' ⟨rfl,rfl⟩))
      have M5:=M3.done ((k:Int)+n) (s.extract k (k+n)) ((k:Int)+n)
      obtain ⟨p0,p1,p2,p3,p4,p5,p6,p7,p8,f0,f1,f2,f3,f4,f5,f6,f7,f8⟩:=nine_facts ((M3.part.past (p:=⟨W.heap.size+1,2,none⟩) (by simp) (.int .i64 ((k:Int)+n))).past (p:=⟨W.heap.size+1,3,none⟩) (by simp) (.string (s.extract k (k+n))))
      obtain ⟨hO,hT⟩:=M5
      unfold put9 at hO hT
      have HO:=hid hO
      have HT:=hid hT
      clear hO hT
      go_wp2
      refine bodyPost_ret (results_cell_row rfl _ _ W.heap.size _ _ (0,0) _ rfl HO.out Tryz.underlying85 rfl part_size) rfl ?_
      rw[← HP.out]
      exact ⟨leafV 2 k (k+n) ((s.data.toList.drop k).take n),(by rw[← HX.out];rfl),(fun _ _=>leaf_is _ _ _ _ _),HT.out⟩
     ·rw [han] at hnum HS
      rw[hnum] at HP
      rw[if_pos rfl] at HP
      have HS:=hid HS
      have HM:=hid hmd
      clear hat hnum hok hmk hmd hxl
      go_wp2
      have hwk:IntKind.i64.wrap ((k:Int)+n)=(k:Int)+n:=by rw[IntKind.wrap_i64];omega
      have hw0:(0:Int)≤(k:Int)+n:=by omega
      have hw1:(k:Int)+n≤s.size:=by omega
      have hw2:(k:Int)≤(k:Int)+n:=by omega
      have hw3:((k:Int)+n).toNat=k+n:=by omega
      go_still_tail 11,(by kernel_rfl)
      change wpList _ _ _ _ _ wr.drew
      go_wp2_with (first
        | (go_at_call 70
           go_must (
             refine (HS.out _).mono ?_
             rintro e w3 ⟨rfl,hb⟩
             have M3:=HM.out.stay hb
             obtain ⟨v0,v1,v2,v3,v4,v5,u0,u1,u2,u3,u4,u5⟩:=leaf_facts M3.val))
        | (go_at_call 69
           go_must (
             refine (HB.out 5 ((k:Int)+n) _).mono ?_
             rintro e w4 ⟨rfl,hb4⟩
             obtain ⟨o4,hO,hT⟩:=M3.broke hb4 5 ((k:Int)+n)
             obtain ⟨p0,p1,p2,p3,p4,p5,p6,p7,p8,f0,f1,f2,f3,f4,f5,f6,f7,f8⟩:=nine_facts o4
             unfold put9 at hO hT
             have HO:=hid hO
             have HT:=hid hT
             clear hO hT o4 M3 hb hb4)))
      refine bodyPost_ret (results_cell_row rfl _ _ W.heap.size _ _ (0,0) _ rfl HO.out Tryz.underlying85 rfl part_size) rfl ?_
      rw[← HP.out]
      exact ⟨leafV 2 k 0 [],rfl,(fun _ _=>leaf_is _ _ _ _ _),HT.out⟩
    ·rw[if_pos hok] at hnum
     rw[an_zero hok] at HS
     have hat':=at_take n (by omega) hat (by rw[List.getElem_drop];exact hok)
     rw[List.getElem_drop] at hat'
     have HS:=hid HS
     have HR:=hid hnum
     have HA:=hid hat'
     have HM:=hid hmd
     clear hat hnum hmk hmd hxl hat'
     go_wp2
     have hwk:IntKind.i64.wrap ((k:Int)+n)=(k:Int)+n:=by rw[IntKind.wrap_i64];omega
     have hw0:(0:Int)≤(k:Int)+n:=by omega
     have hw1:(k:Int)+n≤s.size:=by omega
     have hw2:(k:Int)≤(k:Int)+n:=by omega
     have hw3:((k:Int)+n).toNat=k+n:=by omega
     go_still_tail 11,(by kernel_rfl)
     change wpList _ _ _ _ _ wr.drew
     go_wp2_with (go_at_call 70;refine (HS.out _).mono ?_;rintro e w3 ⟨rfl,hb⟩)
     go_roundw
     case rel=>exact ⟨n+1,_,by omega,by go_num,rfl,HA.out,HR.out,HM.out.stay hb⟩
     case measure=>simp[intOf];omega
   ·rw [drop_none s (k+n) (by omega)] at hnum
    have hnum:numW 0 (s.data.toList.drop k) 0=(n,0,a):=hnum
    rw[hnum] at HP
    rw[if_neg (show ¬ (0:Int)=2 by decide)] at HP
    have hi:=fun w=>ris_any (s.extract k (k+n)) w (by rw[hxz];omega)
    rw[hxl,at_is hat] at hi
    have HX:=hid hxl
    have M3:=hmk
    obtain ⟨v0,v1,v2,v3,v4,v5,u0,u1,u2,u3,u4,u5⟩:=leaf_facts M3.val
    cases cl
    ·rw [if_pos (.inl ⟨rfl,rfl⟩)] at HP
     clear hat hnum hmk hxl hi
     go_wp2_with (first
       | (go_at_call 69
          go_must (
            refine (HB.out 10 s.size _).mono ?_
            rintro e w4 ⟨rfl,hb4⟩
            obtain ⟨o4,hO,hT⟩:=M3.broke hb4 10 s.size
            obtain ⟨p0,p1,p2,p3,p4,p5,p6,p7,p8,f0,f1,f2,f3,f4,f5,f6,f7,f8⟩:=nine_facts o4
            unfold put9 at hO hT
            have HO:=hid hO
            have HT:=hid hT
            clear hO hT o4 M3 hb4)))
     refine bodyPost_ret (results_cell_row rfl _ _ W.heap.size _ _ (0,0) _ rfl HO.out Tryz.underlying85 rfl part_size) rfl ?_
     rw[← HP.out]
     exact ⟨leafV 2 k 0 [],rfl,(fun _ _=>leaf_is _ _ _ _ _),HT.out⟩
    ·cases hwh : whI a
     ·rw [hwh] at hi
      rw[if_pos (.inr hwh)] at HP
      have HI:=hid hi
      clear hat hnum hmk hxl hi hwh
      go_wp2_with (first
        | (go_at_call 71;refine (HI.out _).mono ?_;rintro e w' ⟨rfl,rfl⟩)
        | (go_at_call 69
           go_must (
             refine (HB.out 10 s.size _).mono ?_
             rintro e w4 ⟨rfl,hb4⟩
             obtain ⟨o4,hO,hT⟩:=M3.broke hb4 10 s.size
             obtain ⟨p0,p1,p2,p3,p4,p5,p6,p7,p8,f0,f1,f2,f3,f4,f5,f6,f7,f8⟩:=nine_facts o4
             unfold put9 at hO hT
             have HO:=hid hO
             have HT:=hid hT
             clear hO hT o4 M3 hb4)))
      refine bodyPost_ret (results_cell_row rfl _ _ W.heap.size _ _ (0,0) _ rfl HO.out Tryz.underlying85 rfl part_size) rfl ?_
      rw[← HP.out]
      exact ⟨leafV 2 k 0 [],rfl,(fun _ _=>leaf_is _ _ _ _ _),HT.out⟩
     ·rw[hwh] at hi
      rw[if_neg (by rintro (⟨h,_⟩|h);cases h;rw[hwh] at h;cases h)] at HP
      have HI:=hid hi
      clear hat hnum hmk hxl hi hwh
      obtain ⟨v0,v1,v2,v3,v4,v5,u0,u1,u2,u3,u4,u5⟩:=leaf_facts M3.val
      go_upto_region 15 with (go_at_call 71;refine (HI.out _).mono ?_;rintro e w' ⟨rfl,rfl⟩)
      have M5:=M3.done ((k:Int)+n) (s.extract k (k+n)) ((k:Int)+n)
      obtain ⟨p0,p1,p2,p3,p4,p5,p6,p7,p8,f0,f1,f2,f3,f4,f5,f6,f7,f8⟩:=nine_facts ((M3.part.past (p:=⟨W.heap.size+1,2,none⟩) (by simp) (.int .i64 ((k:Int)+n))).past (p:=⟨W.heap.size+1,3,none⟩) (by simp) (.string (s.extract k (k+n))))
      obtain ⟨hO,hT⟩:=M5
      unfold put9 at hO hT
      have HO:=hid hO
      have HT:=hid hT
      clear hO hT
      go_wp2
      refine bodyPost_ret (results_cell_row rfl _ _ W.heap.size _ _ (0,0) _ rfl HO.out Tryz.underlying85 rfl part_size) rfl ?_
      rw[← HP.out]
      exact ⟨leafV 2 k (k+n) ((s.data.toList.drop k).take n),(by rw[← HX.out];rfl),(fun _ _=>leaf_is _ _ _ _ _),HT.out⟩
end
section
open Go.RowKit
theorem rkindR_at (x:ByteArray) (h:refL x.data.toList=1) (w:World) :
   Calls Tryz.prog 73 #[.string x] w fun e w'=>e=.returned (.tuple #[.int .i64 (if x.data.toList=lN then 0 else 1),.bool true])∧w=w':=by
 rcases ref_one h with h|h|h
 ·obtain rfl:x=wT:=ba_ext h
  rw[if_neg (by rw[h];decide)]
  exact rkind_t w
 ·obtain rfl:x=wF:=ba_ext h
  rw[if_neg (by rw[h];decide)]
  exact rkind_f w
 ·obtain rfl:x=wN:=ba_ext h
  rw[if_pos h]
  exact rkind_n w
theorem wordW_cons (s:ByteArray) (j:Nat) (h:j<s.size) (p:List UInt8):wordW p (s.data.toList.drop j)=if refL (p++[s[j]])=0 then wordW (p++[s[j]]) (s.data.toList.drop (j+1)) else (p.length,refL (p++[s[j]])):=by
 rw[drop_at s j h]
 rfl
theorem refL_cases (l:List UInt8):refL l=0∨refL l=1∨refL l=2:=by
 unfold refL
 have a:=hit_cases lT l
 have b:=hit_cases lF l
 have c:=hit_cases lN l
 (repeat' split)<;>omega
theorem wtake_snoc (s:ByteArray) (k n:Nat) (h:k+n<s.size):(s.data.toList.drop k).take n++[s[k+n]]=(s.data.toList.drop k).take (n+1):=by
 have hl:n<(s.data.toList.drop k).length:=by rw[List.length_drop];show n<s.size-k;omega
 rw[List.take_succ_eq_append_getElem hl,List.getElem_drop]
 rfl
theorem Mk.word {W w:World} {kd fr:Int} (h:Mk W kd fr w) (kd' t:Int) (tx:ByteArray) (k:Int) :
   Own (put9 (((w.setCell ⟨W.heap.size+1,3,none⟩ (.string tx)).setCell ⟨W.heap.size+1,2,none⟩ (.int .i64 t)).setCell ⟨W.heap.size+1,0,none⟩ (.int .i64 kd')) W.heap.size kd' fr t tx none 0 0 none 0 0 true k 0) W.heap.size 85 (cells9 kd' fr t tx none 0 0 none 0 0 true k 0) ∧
   Below W.heap.size W (put9 (((w.setCell ⟨W.heap.size+1,3,none⟩ (.string tx)).setCell ⟨W.heap.size+1,2,none⟩ (.int .i64 t)).setCell ⟨W.heap.size+1,0,none⟩ (.int .i64 kd')) W.heap.size kd' fr t tx none 0 0 none 0 0 true k 0) :=
 ⟨put9_own (((h.part.past (by simp) _).past (by simp) _).past (by simp) _) _ _ _ _ _ _ _ _ _ _ _ _ _,
  put9_below (((h.bel.setCell (p:=⟨W.heap.size+1,3,none⟩) (Nat.le_succ _) _).setCell (p:=⟨W.heap.size+1,2,none⟩) (Nat.le_succ _) _).setCell (p:=⟨W.heap.size+1,0,none⟩) (Nat.le_succ _) _) _ _ _ _ _ _ _ _ _ _ _ _ _⟩
def RelWd (s:ByteArray) (k:Nat) (W wr:World) (v:Value):Prop :=
 ∃ n:Nat,k+n≤s.size∧v=.int .i64 n∧wordW [] (s.data.toList.drop k)=wordW ((s.data.toList.drop k).take n) (s.data.toList.drop (k+n))∧Mk W 0 k wr
set_option maxHeartbeats 16000000 in
theorem rwordR_any (s:ByteArray) (k:Nat) (hs:s.size≤50000) (hk:k<s.size) (W:World) (P:PartR) (hP:wordR s.data.toList k=P) :
   Calls Tryz.prog 49 #[.string s,.int .i64 k] W fun e w'=>PartP W P e w':=by
 have hsl:s.data.toList.length=s.size:=rfl
 have HB:=hid (fun (kk f:Int) (w:World)=>rbroken_any 0 k 0 ⟨#[]⟩ none 0 0 none 0 0 kk f w)
 unfold wordR at hP
 have HP:=hid hP
 clear hP
 go_enter Tryz.func49,Tryz.ntmps49
 go_wp2
 go_loopw [6] (fun v wr=>RelWd s k W wr v) (fun v _=>s.size-k-(intOf v).toNat)
 case atStart=>exact ⟨0,by omega,rfl,rfl,Mk.start W 0 k⟩
 case round =>
   obtain ⟨n,hkn,rfl,hww,hmk⟩:=hrel
   have hxl:(s.extract k (k+n)).data.toList=(s.data.toList.drop k).take n:=part_is s k n
   have hxz:(s.extract k (k+n)).size=n:=by rw[ByteArray.size_extract];omega
   have hdl:(s.data.toList.drop k).length=s.size-k:=by rw[List.length_drop,hsl]
   have htl:((s.data.toList.drop k).take n).length=n:=by rw[List.length_take,hdl];omega
   by_cases hlt:k+n<s.size
   ·rw [wordW_cons s (k+n) hlt,wtake_snoc s k n hlt,htl] at hww
    have HS:=fun w=>rstep_any (s.extract k (k+n)) s[k+n] w (by rw[hxz];omega)
    rw[hxl,wtake_snoc s k n hlt] at HS
    have hmd:=hmk.drew
    rcases refL_cases ((s.data.toList.drop k).take (n+1)) with h0|h1|h2
    ·rw[if_pos h0] at hww
     rw[h0] at HS
     have HS:=hid HS
     have HR:=hid hww
     have HM:=hid hmd
     clear hww hmk hmd hxl h0 htl
     go_wp2
     have hwk:IntKind.i64.wrap ((k:Int)+n)=(k:Int)+n:=by rw[IntKind.wrap_i64];omega
     have hw0:(0:Int)≤(k:Int)+n:=by omega
     have hw1:(k:Int)+n≤s.size:=by omega
     have hw2:(k:Int)≤(k:Int)+n:=by omega
     have hw3:((k:Int)+n).toNat=k+n:=by omega
     go_still_tail 11,(by kernel_rfl)
     change wpList _ _ _ _ _ wr.drew
     go_wp2_with (go_at_call 72;refine (HS.out _).mono ?_;rintro e w3 ⟨rfl,hb⟩)
     go_roundw
     case rel=>exact ⟨n+1,by omega,by go_num,HR.out,HM.out.stay hb⟩
     case measure=>simp[intOf];omega
    ·have hyl:(s.extract k (k+n+1)).data.toList=(s.data.toList.drop k).take (n+1):=part_is s k (n+1)
     have HK:=fun w=>rkindR_at (s.extract k (k+n+1)) (by rw[hyl];exact h1) w
     rw[hyl] at HK
     have HY:=hid hyl
     rw[h1] at hww HS
     rw[if_neg (by decide)] at hww
     rw[hww] at HP
     rw[if_neg (show ¬ (1:Int)=2 by decide),if_neg (show ¬ (1:Int)=0 by decide)] at HP
     obtain ⟨kd,hkd⟩:∃ kd:Int,(if (s.data.toList.drop k).take (n+1)=lN then (0:Int) else 1)=kd:=⟨_,rfl⟩
     have hP2:(⟨.mk kd k (k+n+1) ((s.data.toList.drop k).take (n+1)) [] [],true,k+n+1,0⟩:PartR)=P:=by rw[← hkd];exact HP.out
     have HP2:=hid hP2
     rw[hkd] at HK
     have HK:=hid HK
     have HS:=hid HS
     have HM:=hid hmd
     clear hww hmk hmd hxl h1 htl hyl hkd hP2 HP
     go_wp2
     have hwk:IntKind.i64.wrap ((k:Int)+n)=(k:Int)+n:=by rw[IntKind.wrap_i64];omega
     have hw0:(0:Int)≤(k:Int)+n:=by omega
     have hw1:(k:Int)+n≤s.size:=by omega
     have hw2:(k:Int)≤(k:Int)+n:=by omega
     have hw3:((k:Int)+n).toNat=k+n:=by omega
     go_still_tail 11,(by kernel_rfl)
     change wpList _ _ _ _ _ wr.drew
     go_upto_region 12 with (first
       | (go_at_call 72
          go_must (
            refine (HS.out _).mono ?_
            rintro e w3 ⟨rfl,hb⟩
            have M3:=HM.out.stay hb
            obtain ⟨v0,v1,v2,v3,v4,v5,u0,u1,u2,u3,u4,u5⟩:=leaf_facts M3.val
            clear hb))
       | (go_at_call 73;refine (HK.out _).mono ?_;rintro e w' ⟨rfl,rfl⟩))
     have M5:=M3.word kd ((k:Int)+n+1) (s.extract k (k+n+1)) ((k:Int)+n+1)
     obtain ⟨p0,p1,p2,p3,p4,p5,p6,p7,p8,f0,f1,f2,f3,f4,f5,f6,f7,f8⟩:=nine_facts (((M3.part.past (p:=⟨W.heap.size+1,3,none⟩) (by simp) (.string (s.extract k (k+n+1)))).past (p:=⟨W.heap.size+1,2,none⟩) (by simp) (.int .i64 ((k:Int)+n+1))).past (p:=⟨W.heap.size+1,0,none⟩) (by simp) (.int .i64 kd))
     obtain ⟨hO,hT⟩:=M5
     unfold put9 at hO hT
     have HO:=hid hO
     have HT:=hid hT
     clear hO hT
     go_wp2
     refine bodyPost_ret (results_cell_row rfl _ _ W.heap.size _ _ (0,0) _ rfl HO.out Tryz.underlying85 rfl part_size) rfl ?_
     rw[← HP2.out]
     exact ⟨leafV kd k (k+n+1) ((s.data.toList.drop k).take (n+1)),(by rw[← HY.out];rfl),(fun _ _=>leaf_is _ _ _ _ _),HT.out⟩
    ·rw [h2] at hww HS
     rw[if_neg (by decide)] at hww
     rw[hww] at HP
     rw[if_pos rfl] at HP
     have HS:=hid HS
     have HM:=hid hmd
     clear hww hmk hmd hxl h2 htl
     go_wp2
     have hwk:IntKind.i64.wrap ((k:Int)+n)=(k:Int)+n:=by rw[IntKind.wrap_i64];omega
     have hw0:(0:Int)≤(k:Int)+n:=by omega
     have hw1:(k:Int)+n≤s.size:=by omega
     have hw2:(k:Int)≤(k:Int)+n:=by omega
     have hw3:((k:Int)+n).toNat=k+n:=by omega
     go_still_tail 11,(by kernel_rfl)
     change wpList _ _ _ _ _ wr.drew
     go_wp2_with (first
       | (go_at_call 72
          go_must (
            refine (HS.out _).mono ?_
            rintro e w3 ⟨rfl,hb⟩
            have M3:=HM.out.stay hb
            obtain ⟨v0,v1,v2,v3,v4,v5,u0,u1,u2,u3,u4,u5⟩:=leaf_facts M3.val))
       | (go_at_call 69
          go_must (
            refine (HB.out 6 ((k:Int)+n) _).mono ?_
            rintro e w4 ⟨rfl,hb4⟩
            obtain ⟨o4,hO,hT⟩:=M3.broke hb4 6 ((k:Int)+n)
            obtain ⟨p0,p1,p2,p3,p4,p5,p6,p7,p8,f0,f1,f2,f3,f4,f5,f6,f7,f8⟩:=nine_facts o4
            unfold put9 at hO hT
            have HO:=hid hO
            have HT:=hid hT
            clear hO hT o4 M3 hb hb4)))
     refine bodyPost_ret (results_cell_row rfl _ _ W.heap.size _ _ (0,0) _ rfl HO.out Tryz.underlying85 rfl part_size) rfl ?_
     rw[← HP.out]
     exact ⟨leafV 0 k 0 [],rfl,(fun _ _=>leaf_is _ _ _ _ _),HT.out⟩
   ·rw [drop_none s (k+n) (by omega)] at hww
    have hww:wordW [] (s.data.toList.drop k)=(n,0):=by rw[hww];show (((s.data.toList.drop k).take n).length,_)=_;rw[htl]
    rw[hww] at HP
    rw[if_neg (show ¬ (0:Int)=2 by decide),if_pos rfl] at HP
    have M3:=hmk
    obtain ⟨v0,v1,v2,v3,v4,v5,u0,u1,u2,u3,u4,u5⟩:=leaf_facts M3.val
    clear hww hmk hxl htl
    go_wp2_with (first
      | (go_at_call 69
         go_must (
           refine (HB.out 10 s.size _).mono ?_
           rintro e w4 ⟨rfl,hb4⟩
           obtain ⟨o4,hO,hT⟩:=M3.broke hb4 10 s.size
           obtain ⟨p0,p1,p2,p3,p4,p5,p6,p7,p8,f0,f1,f2,f3,f4,f5,f6,f7,f8⟩:=nine_facts o4
           unfold put9 at hO hT
           have HO:=hid hO
           have HT:=hid hT
           clear hO hT o4 M3 hb4)))
    refine bodyPost_ret (results_cell_row rfl _ _ W.heap.size _ _ (0,0) _ rfl HO.out Tryz.underlying85 rfl part_size) rfl ?_
    rw[← HP.out]
    exact ⟨leafV 0 k 0 [],rfl,(fun _ _=>leaf_is _ _ _ _ _),HT.out⟩
end
section
open Go.RowKit
def PBd (n k:Nat)(p:PartR):Prop:=p.pt≤n∧(p.fault=0→k≤p.pt∧p.beg=true)
theorem PBd.brk {n k:Nat}{kd:Int}{fr:Nat}{ts:List Tree}{ns:List (List UInt8)}{f:Int}{pt:Nat}(h:pt≤n)(hf:f≠0):PBd n k (brkR kd fr ts ns f pt):=⟨h,fun e=>absurd e hf⟩
theorem PBd.well {n k:Nat}{t:Tree}{pt:Nat}(h:pt≤n)(hk:k≤pt):PBd n k ⟨t,true,pt,0⟩:=⟨h,fun _=>⟨hk,rfl⟩⟩
theorem scanL_bd (l:List UInt8):(scanL l).2.1≤l.length:=(scanR_bd l.length l).1
theorem quotedR_bd (l:List UInt8) (k:Nat) (hk:k<l.length):PBd l.length k (quotedR l k):=by
 have hb:=scanL_bd (l.drop (k+1))
 rw[List.length_drop] at hb
 unfold quotedR
 split
 ·exact .brk (Nat.le_refl _) (by decide)
 ·split
  ·rename_i h1 h2
   exact .brk (by omega) h1
  ·exact .well (by omega) (by omega)
theorem numW_bd:∀ (l:List UInt8) (a:Int) (k:Nat),k≤(numW a l k).1∧(numW a l k).1≤k+l.length
 | [],a,k=>⟨Nat.le_refl _,Nat.le_add_right _ _⟩
 | c :: t,a,k=>by
   unfold numW
   split
   ·have:=numW_bd t (nxI a c.toNat) (k+1)
    simp only [List.length_cons]
    omega
   ·exact ⟨Nat.le_refl _,Nat.le_add_right _ _⟩
theorem numberR_bd (l:List UInt8) (cl:Bool) (k:Nat) (hk:k<l.length):PBd l.length k (numberR l cl k):=by
 have hb:=numW_bd (l.drop k) 0 0
 rw[List.length_drop] at hb
 unfold numberR
 split
 ·exact .brk (by omega) (by decide)
 ·split
  ·exact .brk (Nat.le_refl _) (by decide)
  ·exact .well (by omega) (by omega)
theorem wordW_bd:∀ (l p:List UInt8),(wordW p l).1≤p.length+l.length∧((wordW p l).2≠0→(wordW p l).1<p.length+l.length)
 | [],p=>⟨by unfold wordW;simp,fun h=>absurd rfl h⟩
 | c :: t,p=>by
   unfold wordW
   split
   ·have:=wordW_bd t (p++[c])
    simp only [List.length_append,List.length_cons,List.length_nil] at this ⊢
    refine ⟨by omega,fun h=>by have:=this.2 h;omega⟩
   ·simp only [List.length_cons]
    exact ⟨by omega,fun _=>by omega⟩
theorem wordR_bd (l:List UInt8) (k:Nat) (hk:k<l.length):PBd l.length k (wordR l k):=by
 have hb:=wordW_bd (l.drop k) []
 rw[List.length_drop,List.length_nil] at hb
 unfold wordR
 split
 ·exact .brk (by omega) (by decide)
 ·split
  ·exact .brk (Nat.le_refl _) (by decide)
  ·rename_i h1 h2
   have:=hb.2 h2
   exact .well (by omega) (by omega)
theorem arrGo_bd (l:List UInt8) (sm:Nat→PartR) (hsm:∀ k,k<l.length→PBd l.length k (sm k)) (fr:Nat):∀ (f k:Nat) (items:List Tree),PBd l.length k (arrGo l sm fr f k items)
 | 0,k,items=>.brk (Nat.le_refl _) (by decide)
 | f + 1, k, items=>by
   unfold arrGo
   split
   ·exact .brk (Nat.le_refl _) (by decide)
   ·rename_i hk
    have hb:=hsm k (by omega)
    split
    ·rename_i h
     exact .brk hb.1 h
    ·rename_i h
     have h0:(sm k).fault=0:=Classical.not_not.1 h
     have hk2:=(hb.2 h0).1
     have hbl:=blankR_le l (sm k).pt hb.1
     split
     ·exact .brk (Nat.le_refl _) (by decide)
     ·split
      ·exact .well (by omega) (by omega)
      ·split
       ·exact .brk (by omega) (by decide)
       ·have hbl2:=blankR_le l (blankR l (sm k).pt+1) (by omega)
        have:=arrGo_bd l sm hsm fr f (blankR l (blankR l (sm k).pt+1)) (if (sm k).beg=true then items++[(sm k).val] else items)
        exact ⟨this.1,fun e=>⟨by have:=(this.2 e).1;omega,(this.2 e).2⟩⟩
theorem arrR_bd (l:List UInt8) (sm:Nat→PartR) (hsm:∀ k,k<l.length→PBd l.length k (sm k)) (k:Nat) (hk:k<l.length):PBd l.length k (arrR l sm k):=by
 have hbl:=blankR_le l (k+1) (by omega)
 unfold arrR
 split
 ·rename_i h
  exact .well (by omega) (by omega)
 ·have:=arrGo_bd l sm hsm k (l.length+1-blankR l (k+1)) (blankR l (k+1)) []
  exact ⟨this.1,fun e=>⟨by have:=(this.2 e).1;omega,(this.2 e).2⟩⟩
theorem nameR_bd (l:List UInt8) (k:Nat):(∀ f p,nameR l k=(none,f,p)→f≠0∧p≤l.length)∧(∀ nm v r,nameR l k=(some (nm,v),r)→k<v∧v<l.length):=by
 unfold nameR
 split
 ·exact ⟨fun f p e=>by cases e;exact ⟨by decide,Nat.le_refl _⟩,fun nm v r e=>by cases e⟩
 rename_i hk
 split
 ·exact ⟨fun f p e=>by cases e;exact ⟨by decide,by omega⟩,fun nm v r e=>by cases e⟩
 have hb:=quotedR_bd l k (by omega)
 split
 ·rename_i h
  exact ⟨fun f p e=>by cases e;exact ⟨h,hb.1⟩,fun nm v r e=>by cases e⟩
 rename_i h
 have h0:(quotedR l k).fault=0:=Classical.not_not.1 h
 have hk2:=(hb.2 h0).1
 have hbl:=blankR_le l (quotedR l k).pt hb.1
 split
 ·exact ⟨fun f p e=>by cases e;exact ⟨by decide,Nat.le_refl _⟩,fun nm v r e=>by cases e⟩
 split
 ·exact ⟨fun f p e=>by cases e;exact ⟨by decide,hbl.2⟩,fun nm v r e=>by cases e⟩
 have hbl2:=blankR_le l (blankR l (quotedR l k).pt+1) (by omega)
 split
 ·exact ⟨fun f p e=>by cases e;exact ⟨by decide,Nat.le_refl _⟩,fun nm v r e=>by cases e⟩
 ·exact ⟨fun f p e=>(by cases e),fun nm v r e=>by cases e;exact ⟨by omega,by omega⟩⟩
theorem objGo_bd (l:List UInt8) (sm:Nat→PartR) (hsm:∀ k,k<l.length→PBd l.length k (sm k)) (fr:Nat):∀ (f k:Nat) (items:List Tree) (names:List (List UInt8)),PBd l.length k (objGo l sm fr f k items names)
 | 0,k,items,names=>.brk (Nat.le_refl _) (by decide)
 | f + 1, k, items,names=>by
   have hn:=nameR_bd l k
   unfold objGo
   rcases hr:nameR l k with ⟨_|⟨nm,v⟩,r⟩
   ·obtain ⟨h1,h2⟩:=hn.1 r.1 r.2 hr
    exact .brk h2 h1
   ·obtain ⟨hk,hk2⟩:=hn.2 nm v r hr
    show PBd _ _ (if (sm v).fault≠0 then _ else _)
    have hb:=hsm v hk2
    split
    ·rename_i h
     exact .brk hb.1 h
    ·rename_i h
     have h0:(sm v).fault=0:=Classical.not_not.1 h
     have hk3:=(hb.2 h0).1
     have hbl:=blankR_le l (sm v).pt hb.1
     split
     ·exact .brk (Nat.le_refl _) (by decide)
     ·split
      ·exact .well (by omega) (by omega)
      ·split
       ·exact .brk (by omega) (by decide)
       ·have hbl2:=blankR_le l (blankR l (sm v).pt+1) (by omega)
        have:=objGo_bd l sm hsm fr f (blankR l (blankR l (sm v).pt+1)) (if (sm v).beg=true then items++[(sm v).val] else items) (if (sm v).beg=true then names++[nm] else names)
        exact ⟨this.1,fun e=>⟨by have:=(this.2 e).1;omega,(this.2 e).2⟩⟩
theorem objR_bd (l:List UInt8) (sm:Nat→PartR) (hsm:∀ k,k<l.length→PBd l.length k (sm k)) (k:Nat) (hk:k<l.length):PBd l.length k (objR l sm k):=by
 have hbl:=blankR_le l (k+1) (by omega)
 unfold objR
 split
 ·rename_i h
  exact .well (by omega) (by omega)
 ·have:=objGo_bd l sm hsm k (l.length+1-blankR l (k+1)) (blankR l (k+1)) [] []
  exact ⟨this.1,fun e=>⟨by have:=(this.2 e).1;omega,(this.2 e).2⟩⟩
theorem someR_bd (l:List UInt8) (cl:Bool):∀ (n k:Nat),k<l.length→PBd l.length k (someR l cl n k)
 | 0, k, hk=>by
   unfold someR
   split
   ·exact quotedR_bd l k hk
   split
   ·exact numberR_bd l cl k hk
   split
   ·exact wordR_bd l k hk
   ·exact ⟨Nat.le_of_lt hk,fun e=>by
      exfalso
      revert e
      show ¬ (if _ then (12:Int) else 8)=0
      split<;>decide⟩
 | n+1,k,hk=>by
   unfold someR
   split
   ·exact quotedR_bd l k hk
   split
   ·exact numberR_bd l cl k hk
   split
   ·exact wordR_bd l k hk
   split
   ·exact arrR_bd l _ (someR_bd l cl n) k hk
   split
   ·exact objR_bd l _ (someR_bd l cl n) k hk
   ·exact ⟨Nat.le_of_lt hk,fun e=>absurd e (show ¬ (8:Int)=0 by decide)⟩
end
section
open Go.RowKit
theorem GRow.rd_at {α:Type} {K:RowK α} {w u:World} {base m c:Nat} {A:Option Addr} {l:List α} (h:GRow K w base (.slice A m c) l) (hk:∀ g,(Value.slice A m c).ownBlock=some g→u.heap[g]?=w.heap[g]?):RdG K u A l.length l :=
 (h.stay hk).rd
theorem VLs.snocR {w:World} {t:Tree} {x:V6}:∀ {ts:List Tree} {xs:List V6},VLs w ts xs→VIs w t x→VLs w (ts++[t]) (xs++[x])
 | [],xs,h,hx=>by
   unfold VLs at h
   subst h
   show VLs w [t] [x]
   unfold VLs
   exact ⟨x,[],rfl,hx,by unfold VLs;rfl⟩
 | u :: ts,xs,h,hx=>by
   unfold VLs at h
   obtain ⟨y,r,rfl,h1,h2⟩:=h
   show VLs w (u :: (ts++[t])) (y :: (r++[x]))
   unfold VLs
   exact ⟨y,_,rfl,h1,VLs.snocR h2 hx⟩
structure ArX (W w:World) (kd:Int) (fr:Nat) (A:Option Addr) (c:Nat) (B:Option Addr) (d:Nat) (ts:List Tree) (ns:List (List UInt8)) (xs:List V6):Prop where
 part:Own w W.heap.size 85 zero9
 val:Own w (W.heap.size+1) 27 #[.int .i64 kd,.int .i64 fr,.int .i64 0,.string ⟨#[]⟩,.slice A ts.length c,.slice B ns.length d]
 bel:Below W.heap.size W w
 row:GRow valK w (W.heap.size+2) (.slice A ts.length c) xs
 kept:∀ u:World,(∀ b,W.heap.size+2≤b→b<w.heap.size→(Value.slice A ts.length c).ownBlock≠some b→(Value.slice B ns.length d).ownBlock≠some b→u.heap[b]?=w.heap[b]?)→VLs u ts xs
 nam:GRow namK w (W.heap.size+2) (.slice B ns.length d) ns
 apart:∀ g,(Value.slice A ts.length c).ownBlock=some g→(Value.slice B ns.length d).ownBlock≠some g
section
variable {W w w':World} {kd:Int} {fr:Nat} {A:Option Addr} {c:Nat} {B:Option Addr} {d:Nat} {ts:List Tree} {ns:List (List UInt8)} {xs:List V6}
theorem ArX.start (W:World) (kd:Int) (fr:Nat):ArX W ((W.alloc (.cells zero9 85)).alloc (.cells (leaf6 kd fr) 27)) kd fr none 0 none 0 [] [] []:=by
 have h:=Mk.start W kd fr
 exact ⟨h.part,h.val,h.bel,GRow.nil _ _,fun u _=>(by unfold VLs;rfl),GRow.nil _ _,fun g e=>by simp[Value.ownBlock] at e⟩
theorem ArX.big (h:ArX W w kd fr A c B d ts ns xs):W.heap.size+2≤w.heap.size:=h.val.inside
theorem ArX.len (h:ArX W w kd fr A c B d ts ns xs):xs.length=ts.length:=(h.kept w (fun _ _ _ _ _=>rfl)).len
theorem ArX.stay (h:ArX W w kd fr A c B d ts ns xs) (hb:Below w.heap.size w w'):ArX W w' kd fr A c B d ts ns xs :=
 ⟨h.part.stay hb h.part.inside,h.val.stay hb h.val.inside,h.bel.trans (hb.mono h.bel.size),h.row.stay (fun g e=>hb.block g (h.row.low e).2),
  fun u hu=>h.kept u (fun b h1 h2 h3 h4=>(hu b h1 (Nat.lt_of_lt_of_le h2 hb.size) h3 h4).trans (hb.block b h2)),h.nam.stay (fun g e=>hb.block g (h.nam.low e).2),h.apart⟩
theorem ArX.push {w5:World} {v':Value} {t:Tree} {x:V6} {B0 E0:Nat} (h:ArX W w kd fr A c B d ts ns xs) (hk:VKept B0 E0 w t x) (hB:W.heap.size+2≤B0) (hE:E0≤w.heap.size)
   (hA:∀ g,(Value.slice A ts.length c).ownBlock=some g→g<B0) (hN:∀ g,(Value.slice B ns.length d).ownBlock=some g→g<B0∨E0≤g)
   (hr:GRow valK w5 (W.heap.size+2) v' (xs++[x])) (hg:w.grownBy w5 (Value.slice A ts.length c).ownBlock) (hat:v'.ownBlock=(Value.slice A ts.length c).ownBlock∨v'.ownBlock=some w.heap.size) :
   ∃ A' c',v'=.slice A' (ts++[t]).length c'∧ArX W (w5.setCell ⟨W.heap.size+1,4,none⟩ v') kd fr A' c' B d (ts++[t]) ns (xs++[x]):=by
 have hlen:=h.len
 have hbig:=h.big
 obtain ⟨A',c',e',_⟩:=hr.form
 have hl:(xs++[x]).length=(ts++[t]).length:=by simp[hlen]
 rw[hl] at e'
 subst e'
 have hap:∀ g,(Value.slice A ts.length c).ownBlock=some g→W.heap.size+2≤g∧g<w.heap.size:=fun g e=>h.row.low e
 have hne:∀ b,b<W.heap.size+2→some b≠(Value.slice A ts.length c).ownBlock:=fun b hb e=>by have:=(hap b e.symm).1;omega
 have o1:Own w5 W.heap.size 85 zero9:=(hg.block _ h.part.inside (hne _ (by omega))).trans h.part
 have o2:Own w5 (W.heap.size+1) 27 #[.int .i64 kd,.int .i64 fr,.int .i64 0,.string ⟨#[]⟩,.slice A ts.length c,.slice B ns.length d]:=(hg.block _ h.val.inside (hne _ (by omega))).trans h.val
 have hset:∀ b,W.heap.size+2≤b→(w5.setCell ⟨W.heap.size+1,4,none⟩ (.slice A' (ts++[t]).length c')).heap[b]?=w5.heap[b]?:=fun b hb=>Below.heap_setCell w5 _ _ b (by show b≠W.heap.size+1;omega)
 refine ⟨A',c',rfl,⟨o1.past (by show W.heap.size≠W.heap.size+1;omega) _,?_,?_,hr.stay (fun g e=>hset g (hr.low e).1),?_,?_,?_⟩⟩
 ·have:=o2.put 4 (.slice A' (ts++[t]).length c')
  simpa using this
 ·exact (h.bel.grown hg h.bel.size (fun g e=>by have:=(hap g e).1;omega)).setCell (Nat.le_succ _) _
 ·intro u hu
  have hu':∀ b,W.heap.size+2≤b→b<w.heap.size→(Value.slice A ts.length c).ownBlock≠some b→(Value.slice B ns.length d).ownBlock≠some b→u.heap[b]?=w.heap[b]?:=by
    intro b h1 h2 h3 h4
    have h5:(Value.slice A' (ts++[t]).length c').ownBlock≠some b:=by
      rcases hat with e|e
      ·rw[e];exact h3
      ·rw[e];intro e2;have:=Option.some.inj e2;omega
    have hs:b<(w5.setCell ⟨W.heap.size+1,4,none⟩ (.slice A' (ts++[t]).length c')).heap.size:=by
      have:=hg.size
      simp[World.setCell]
      omega
    exact (hu b h1 hs h5 h4).trans ((hset b h1).trans (hg.block b h2 (fun e=>h3 e.symm)))
  have hx:VIs u t x:=hk u (fun b h1 h2=>hu' b (by omega) (by omega) (fun e=>by have:=hA b e;omega) (fun e=>by rcases hN b e with h|h<;>omega))
  exact (h.kept u hu').snocR hx
 ·refine h.nam.stay (fun g e=>(hset g (h.nam.low e).1).trans (hg.block g (h.nam.low e).2 (fun e2=>h.apart g e2.symm e)))
 ·intro g e e2
  have hlt:=(h.nam.low e2).2
  rcases hat with q|q
  ·rw[q] at e;exact h.apart g e e2
  ·rw[q] at e
   have:=Option.some.inj e
   omega
theorem ArX.pushN {w5:World} {v':Value} {nm:List UInt8} (h:ArX W w kd fr A c B d ts ns xs)
   (hr:GRow namK w5 (W.heap.size+2) v' (ns++[nm])) (hg:w.grownBy w5 (Value.slice B ns.length d).ownBlock) (hat:v'.ownBlock=(Value.slice B ns.length d).ownBlock∨v'.ownBlock=some w.heap.size) :
   ∃ B' d',v'=.slice B' (ns++[nm]).length d'∧ArX W (w5.setCell ⟨W.heap.size+1,5,none⟩ v') kd fr A c B' d' ts (ns++[nm]) xs:=by
 have hbig:=h.big
 obtain ⟨B',d',e',_⟩:=hr.form
 subst e'
 have hap:∀ g,(Value.slice B ns.length d).ownBlock=some g→W.heap.size+2≤g∧g<w.heap.size:=fun g e=>h.nam.low e
 have hne:∀ b,b<W.heap.size+2→some b≠(Value.slice B ns.length d).ownBlock:=fun b hb e=>by have:=(hap b e.symm).1;omega
 have o1:Own w5 W.heap.size 85 zero9:=(hg.block _ h.part.inside (hne _ (by omega))).trans h.part
 have o2:Own w5 (W.heap.size+1) 27 #[.int .i64 kd,.int .i64 fr,.int .i64 0,.string ⟨#[]⟩,.slice A ts.length c,.slice B ns.length d]:=(hg.block _ h.val.inside (hne _ (by omega))).trans h.val
 have hset:∀ b,W.heap.size+2≤b→(w5.setCell ⟨W.heap.size+1,5,none⟩ (.slice B' (ns++[nm]).length d')).heap[b]?=w5.heap[b]?:=fun b hb=>Below.heap_setCell w5 _ _ b (by show b≠W.heap.size+1;omega)
 refine ⟨B',d',rfl,⟨o1.past (by show W.heap.size≠W.heap.size+1;omega) _,?_,?_,?_,?_,hr.stay (fun g e=>hset g (hr.low e).1),?_⟩⟩
 ·have:=o2.put 5 (.slice B' (ns++[nm]).length d')
  simpa using this
 ·exact (h.bel.grown hg h.bel.size (fun g e=>by have:=(hap g e).1;omega)).setCell (Nat.le_succ _) _
 ·exact h.row.stay (fun g e=>(hset g (h.row.low e).1).trans (hg.block g (h.row.low e).2 (fun e2=>h.apart g e e2.symm)))
 ·intro u hu
  refine h.kept u (fun b h1 h2 h3 h4 => ?_)
  have h5:(Value.slice B' (ns++[nm]).length d').ownBlock≠some b:=by
    rcases hat with e|e
    ·rw[e];exact h4
    ·rw[e];intro e2;have:=Option.some.inj e2;omega
  have hs:b<(w5.setCell ⟨W.heap.size+1,5,none⟩ (.slice B' (ns++[nm]).length d')).heap.size:=by
    have:=hg.size
    simp[World.setCell]
    omega
  exact (hu b h1 hs h3 h5).trans ((hset b h1).trans (hg.block b h2 (fun e=>h4 e.symm)))
 ·intro g e e2
  have hlt:=(h.row.low e).2
  rcases hat with q|q
  ·rw[q] at e2;exact h.apart g e e2
  ·rw[q] at e2
   have:=Option.some.inj e2
   omega
theorem ArX.done {w':World} (h:ArX W w kd fr A c B d ts ns xs) (to':Nat) (hs:w.heap.size≤w'.heap.size) (hw:∀ b,W.heap.size+2≤b→b<w.heap.size→w'.heap[b]?=w.heap[b]?) :
   VKept W.heap.size w'.heap.size w' (.mk kd fr to' [] ts ns) ⟨kd,fr,to',[],A,ts.length,c,B,ns.length,d⟩:=by
 intro u hu
 have hlen:=h.len
 obtain ⟨A1,c1,e1,l1,_⟩:=h.row.form
 obtain ⟨B1,d1,e2,l2,_⟩:=h.nam.form
 have e1':A=A1∧ts.length=xs.length∧c=c1:=by injection e1 with a b c;exact ⟨a,b,c⟩
 have e2':B=B1∧ns.length=ns.length∧d=d1:=by injection e2 with a b c;exact ⟨a,b,c⟩
 have hag:∀ b,W.heap.size+2≤b→b<w.heap.size→u.heap[b]?=w.heap[b]?:=fun b h1 h2=>(hu b (by omega) (by omega)).trans (hw b h1 h2)
 unfold VIs
 refine ⟨rfl,rfl,rfl,rfl,?_,?_,?_,xs,?_,h.kept u (fun b h1 h2 _ _=>hag b h1 h2)⟩
 ·show ts.length≤c
  rw[← hlen,e1'.2.2]
  exact l1
 ·show ns.length≤d
  rw[e2'.2.2]
  exact l2
 ·exact h.nam.rd_at (fun g e=>hag g (h.nam.low e).1 (h.nam.low e).2)
 ·have:=h.row.rd_at (u:=u) (fun g e=>hag g (h.row.low e).1 (h.row.low e).2)
  rw[hlen] at this
  exact this
theorem ArX.facts (h:ArX W w kd fr A c B d ts ns xs) {n m:Nat} (hn:ts.length=n) (hm:ns.length=m) :
   w.cell? ⟨W.heap.size+1,0,none⟩=some (.int .i64 kd)∧w.cell? ⟨W.heap.size+1,1,none⟩=some (.int .i64 fr)∧w.cell? ⟨W.heap.size+1,2,none⟩=some (.int .i64 0)∧w.cell? ⟨W.heap.size+1,3,none⟩=some (.string ⟨#[]⟩) ∧
   w.cell? ⟨W.heap.size+1,4,none⟩=some (.slice A n c)∧w.cell? ⟨W.heap.size+1,5,none⟩=some (.slice B m d) ∧
   w.frozen? ⟨W.heap.size+1,2,none⟩=false∧w.frozen? ⟨W.heap.size+1,4,none⟩=false∧w.frozen? ⟨W.heap.size+1,5,none⟩=false:=by
 subst hn hm
 exact ⟨h.val.at 0,h.val.at 1,h.val.at 2,h.val.at 3,h.val.at 4,h.val.at 5,h.val.free 2,h.val.free 4,h.val.free 5⟩
theorem put9_high {w:World} {g b:Nat} (h:b≠g) (kd fr t:Int) (tx:ByteArray) (A:Option Addr) (n c:Nat) (B:Option Addr) (m d:Nat) (bg:Bool) (k f:Int):(put9 w g kd fr t tx A n c B m d bg k f).heap[b]?=w.heap[b]?:=by
 have e:∀ (u:World) (i:Nat) (v:Value),(u.setCell ⟨g,i,none⟩ v).heap[b]?=u.heap[b]?:=fun u i v=>Below.heap_setCell u _ v b h
 unfold put9
 simp only [e]
theorem put9_size {w:World} {g:Nat} (kd fr t:Int) (tx:ByteArray) (A:Option Addr) (n c:Nat) (B:Option Addr) (m d:Nat) (bg:Bool) (k f:Int):(put9 w g kd fr t tx A n c B m d bg k f).heap.size=w.heap.size:=by
 unfold put9
 simp[World.setCell]
theorem ArX.broke {w4:World} (h:ArX W w kd fr A c B d ts ns xs) {n m:Nat} (hn:ts.length=n) (hm:ns.length=m) (hb:Below w.heap.size w w4) (f kk:Int) :
   Own w4 W.heap.size 85 zero9∧Own (put9 w4 W.heap.size kd fr 0 ⟨#[]⟩ A n c B m d true kk f) W.heap.size 85 (cells9 kd fr 0 ⟨#[]⟩ A n c B m d true kk f) ∧
   Below W.heap.size W (put9 w4 W.heap.size kd fr 0 ⟨#[]⟩ A n c B m d true kk f) ∧
   VKept W.heap.size (put9 w4 W.heap.size kd fr 0 ⟨#[]⟩ A n c B m d true kk f).heap.size (put9 w4 W.heap.size kd fr 0 ⟨#[]⟩ A n c B m d true kk f) (.mk kd fr 0 [] ts ns) ⟨kd,fr,0,[],A,n,c,B,m,d⟩:=by
 subst hn hm
 have h4:=h.stay hb
 exact ⟨h4.part,put9_own h4.part _ _ _ _ _ _ _ _ _ _ _ _ _,put9_below h4.bel _ _ _ _ _ _ _ _ _ _ _ _ _,
   h4.done 0 (Nat.le_of_eq (put9_size _ _ _ _ _ _ _ _ _ _ _ _ _).symm) (fun b h1 _=>put9_high (by omega) _ _ _ _ _ _ _ _ _ _ _ _ _)⟩
theorem ArX.well (h:ArX W w kd fr A c B d ts ns xs) {n m:Nat} (hn:ts.length=n) (hm:ns.length=m) (to':Nat) (t kk:Int) (ht:t=to') :
   Own (w.setCell ⟨W.heap.size+1,2,none⟩ (.int .i64 t)) W.heap.size 85 zero9 ∧
   Own (put9 (w.setCell ⟨W.heap.size+1,2,none⟩ (.int .i64 t)) W.heap.size kd fr t ⟨#[]⟩ A n c B m d true kk 0) W.heap.size 85 (cells9 kd fr t ⟨#[]⟩ A n c B m d true kk 0) ∧
   Below W.heap.size W (put9 (w.setCell ⟨W.heap.size+1,2,none⟩ (.int .i64 t)) W.heap.size kd fr t ⟨#[]⟩ A n c B m d true kk 0) ∧
   VKept W.heap.size (put9 (w.setCell ⟨W.heap.size+1,2,none⟩ (.int .i64 t)) W.heap.size kd fr t ⟨#[]⟩ A n c B m d true kk 0).heap.size (put9 (w.setCell ⟨W.heap.size+1,2,none⟩ (.int .i64 t)) W.heap.size kd fr t ⟨#[]⟩ A n c B m d true kk 0) (.mk kd fr to' [] ts ns) ⟨kd,fr,to',[],A,n,c,B,m,d⟩:=by
 subst hn hm ht
 have o:=h.part.past (p:=⟨W.heap.size+1,2,none⟩) (by show W.heap.size≠W.heap.size+1;omega) (.int .i64 (to':Int))
 refine ⟨o,put9_own o _ _ _ _ _ _ _ _ _ _ _ _ _,put9_below (h.bel.setCell (p:=⟨W.heap.size+1,2,none⟩) (Nat.le_succ _) _) _ _ _ _ _ _ _ _ _ _ _ _ _,h.done to' ?_ (fun b h1 _=>(put9_high (by omega) _ _ _ _ _ _ _ _ _ _ _ _ _).trans (Below.heap_setCell w _ _ b (by show b≠W.heap.size+1;omega)))⟩
 rw[put9_size]
 simp[World.setCell]
end
end
end Go.Proofs.YtbpilcklglhloaaGreatDoor
