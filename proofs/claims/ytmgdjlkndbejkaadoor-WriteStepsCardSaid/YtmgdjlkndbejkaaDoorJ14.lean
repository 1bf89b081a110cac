/- Lemmas. -/
import Derived.Test.YtmgdjlkndbejkaaDoorJ13
import Derived.Lib.ConvBytes
import Derived.Deep.CutBlock
set_option maxRecDepth 100000
set_option maxHeartbeats 8000000
set_option linter.unusedVariables false
set_option linter.unusedSimpArgs false
namespace Go.Proofs.YtmgdjlkndbejkaaDoor
open Go.Lib (hid)
section
open Go.RowKit
def RelSn (s:ByteArray) (W:World) (n i:Value) (wr:World):Prop :=
 ∃ m n0:Nat,m≤4∧m≤s.size∧i=.int .i64 ((m+1:Nat):Int)∧n=.int .i64 n0∧Below W.heap.size W wr ∧
   ((∃ sg lf,n0=0∧m≤3∧InvL (s.data.toList.take m) sg lf∧StU sg lf∧sgnL s.data.toList=sgnGo sg lf (s.data.toList.drop m) m) ∨
    (n0≠0∧sgnL s.data.toList=n0) ∨
    (n0=0∧1≤m∧sgnL s.data.toList=0∧(begR (s.data.toList.take m)).1=false))
theorem part_zero (s:ByteArray) (m:Nat) (hm:m<s.size):(s.extract 0 (m+1)).data.toList=s.data.toList.take m++[s[m]]∧(s.extract 0 (m+1)).data.toList=s.data.toList.take (m+1):=by
 have h:=part_snoc s 0 m (by omega) hm
 rw[List.drop_zero] at h
 refine ⟨h,?_⟩
 rw[h]
 exact (List.take_succ_eq_append_getElem (show m<s.data.toList.length from hm)).symm
theorem conv_str13 (w:World) (s:ByteArray):∃ c w1,(convert 9 52 (.string s)).run Tryd.prog w=.ok (.slice (some ⟨w.heap.size,0,none⟩) s.size c) w1 ∧
   Rd w1 w1.heap.size (some ⟨w.heap.size,0,none⟩) s.size (byteCells s.data.toList)∧Below w.heap.size w w1:=by
 have hz:=Lib.bytesWorld_size w 5 s
 refine ⟨_,_,Lib.run_convert_string_bytes w _ _ 5 s Tryd.underlying9 Tryd.underlying52 Tryd.underlying5,⟨byteCells_length _,fun h=>⟨_,rfl,by rw[hz];exact Nat.lt_succ_self _,fun j u hu => ?_⟩⟩,
   ⟨rfl,rfl,rfl,by rw[hz];exact Nat.le_succ _,fun k hk=>Lib.bytesWorld_at_old w _ s k hk⟩⟩
 have hj:j<s.size:=by have:=(List.getElem?_eq_some_iff.1 hu).1;rw[byteCells_length] at this;exact this
 rw[add_none,Nat.zero_add,Lib.bytesWorld_cell w _ s j hj]
 unfold byteCells at hu
 rw[List.getElem?_map,List.getElem?_eq_getElem (show j<s.data.toList.length from hj)] at hu
 rw[← hu]
 simp[hj]
def SgnEnd (l:List UInt8) (W:World) (e:Ending) (w':World):Prop :=
 ∃ g c,e=.returned (.tuple #[.slice (some ⟨g,0,none⟩) (pieceM l (sgnL l)).length c,.int .i64 (goOn (sgnL l):Nat)])∧Rd w' w'.heap.size (some ⟨g,0,none⟩) (pieceM l (sgnL l)).length (byteCells (pieceM l (sgnL l)))∧Below W.heap.size W w'
theorem head_is (s:ByteArray) (h:0<s.size):s.data.toList=s[0] :: s.data.toList.drop 1:=by
 have:=List.drop_eq_getElem_cons (l:=s.data.toList) (i:=0) h
 rw[List.drop_zero] at this
 exact this
theorem sign13_any (s:ByteArray) (W:World) (h0:0<s.size) (h9:s.size≤1000) :
   Calls Tryd.prog 51 #[.string s] W (SgnEnd s.data.toList W):=by
 have hsl:s.data.toList.length=s.size:=rfl
 unfold SgnEnd
 go_enter Tryd.func51,Tryd.ntmps51
 go_upto_block 0 with fail
 go_cut [4,5,6,7,8] from 13 to 36 (fun n _ _ _ _ wc=>n=.int .i64 (sgnL s.data.toList:Nat)∧Below W.heap.size W wc)
 case first =>
   go_wp2
   go_loopw [4,5] (fun n i wr=>RelSn s W n i wr) (fun _ i _=>6-(intOf i).toNat)
   case atStart=>exact ⟨0,0,by omega,by omega,rfl,rfl,Below.refl _ _,.inl ⟨0,0,rfl,by omega,rfl,stU_zero,rfl⟩⟩
   case round =>
     obtain ⟨m,n0,hm4,hm,rfl,rfl,hb,hway⟩:=hrel
     by_cases hlt:m<s.size∧m<4
     ·obtain ⟨hl1,hl2⟩:=hlt
      obtain ⟨hp1,hp2⟩:=part_zero s m hl1
      have q1:(m:Int)+1≤s.size:=by omega
      have q2:(m:Int)+1≤4:=by omega
      have q3:m+1≤s.size:=by omega
      have hz1:0<(s.extract 0 (m+1)).size:=by rw[ByteArray.size_extract];omega
      rcases hway with ⟨sg,lf,rfl,hm3,hinv,hst,hsg⟩|⟨hj,hsg⟩|⟨rfl,hm1,hsg,hbg⟩
      ·rw [sgnGo_cons _ _ _ _ _ (show m<s.data.toList.length from hl1),show s.data.toList[m]=s[m] from rfl] at hsg
       by_cases hok:okU sg lf s[m].toNat=true
       ·have hst':=stU_step hst (Int.natCast_nonneg _) hok
        have hinv':=invL_step hinv hok
        rw[if_pos hok] at hsg
        by_cases hz:lfU lf s[m].toNat=0
        ·have HB:=hid (fun w=>rbegins_step _ _ _ _ _ hp1 hinv w (x:=true) (y:=true) (z:=sgU sg lf s[m].toNat) (by unfold ansU;rw[if_pos hok,if_pos hz]))
         rw[if_pos hz] at hsg
         have HS:=hid hsg
         clear hinv' hinv hsg hp1 hp2 hok hz hst hst' hsl
         go_wp2_with (go_at_call 58;refine (HB.out _).mono ?_;rintro e w' ⟨rfl,hb2⟩)
         go_roundw
         case rel=>exact ⟨m+1,m+1,by omega,by omega,by go_num,by go_num,hb.trans (hb2.mono hb.size),.inr (.inl ⟨by omega,HS.out⟩)⟩
         case measure=>simp[intOf];omega
        ·have HB:=hid (fun w=>rbegins_step _ _ _ _ _ hp1 hinv w (x:=true) (y:=false) (z:=0) (by unfold ansU;rw[if_pos hok,if_neg hz]))
         rw[if_neg hz] at hsg hinv'
         rw[← hp1,hp2] at hinv'
         have hi3:=(invL_len hinv').1
         rw[List.length_take] at hi3
         have hi3':m+1≤3:=by omega
         have HS:=hid hsg
         have HI:=hid hinv'
         have HT:=hid hst'
         clear hinv' hinv hsg hp1 hp2 hok hz hst hst' hsl hi3
         go_wp2_with (go_at_call 58;refine (HB.out _).mono ?_;rintro e w' ⟨rfl,hb2⟩)
         go_roundw
         case rel=>exact ⟨m+1,0,by omega,by omega,by go_num,rfl,hb.trans (hb2.mono hb.size),.inl ⟨_,_,rfl,hi3',HI.out,HT.out,HS.out⟩⟩
         case measure=>simp[intOf];omega
       ·have HB:=hid (fun w=>rbegins_step _ _ _ _ _ hp1 hinv w (x:=false) (y:=false) (z:=0) (by unfold ansU;rw[if_neg hok]))
        rw[if_neg hok] at hsg
        have hbg:=beg_any (s.data.toList.take m) s[m] sg lf hinv
        rw[← hp1,hp2] at hbg
        have HG:=hid (show (begR (s.data.toList.take (m+1))).1=false by rw[hbg];unfold ansU;rw[if_neg hok])
        have HS:=hid hsg
        clear hinv hsg hp1 hp2 hok hst hsl hbg
        go_wp2_with (go_at_call 58;refine (HB.out _).mono ?_;rintro e w' ⟨rfl,hb2⟩)
        go_roundw
        case rel=>exact ⟨m+1,0,by omega,by omega,by go_num,rfl,hb.trans (hb2.mono hb.size),.inr (.inr ⟨rfl,by omega,HS.out,HG.out⟩)⟩
        case measure=>simp[intOf];omega
      ·have HB:=hid (fun w=>rbegins_any (s.extract 0 (m+1)) w hz1)
       obtain ⟨x,y,z,hx⟩:∃ x y z,begR (s.extract 0 (m+1)).data.toList=(x,y,z):=⟨_,_,_,rfl⟩
       rw[hx] at HB
       have gj:((n0:Int)==0)=false:=beq_eq_false_iff_ne.2 (by omega)
       have HS:=hid hsg
       clear hsg hp1 hp2 hsl hx
       cases y
       all_goals
         go_wp2_with (go_at_call 58;refine (HB.out _).mono ?_;rintro e w' ⟨rfl,hb2⟩)
         go_roundw
         case rel=>exact ⟨m+1,n0,by omega,by omega,by go_num,rfl,hb.trans (hb2.mono hb.size),.inr (.inl ⟨hj,HS.out⟩)⟩
         case measure=>simp[intOf];omega
      ·have HB:=hid (fun w=>rbegins_any (s.extract 0 (m+1)) w hz1)
       have hd:begR (s.extract 0 (m+1)).data.toList=(false,false,0):=by
         rw[hp1]
         refine beg_dead _ _ (fun e => ?_) hbg
         have:=congrArg List.length e
         rw[List.length_take,List.length_nil] at this
         omega
       rw[hd] at HB
       rw[hp2] at hd
       have HG:=hid (show (begR (s.data.toList.take (m+1))).1=false by rw[hd])
       have HS:=hid hsg
       clear hsg hp1 hp2 hsl hd hbg
       go_wp2_with (go_at_call 58;refine (HB.out _).mono ?_;rintro e w' ⟨rfl,hb2⟩)
       go_roundw
       case rel=>exact ⟨m+1,0,by omega,by omega,by go_num,rfl,hb.trans (hb2.mono hb.size),.inr (.inr ⟨rfl,by omega,HS.out,HG.out⟩)⟩
       case measure=>simp[intOf];omega
     ·have hn0:sgnL s.data.toList=n0:=by
        rcases hway with ⟨sg,lf,rfl,hm3,hinv,hst,hsg⟩|⟨hj,hsg⟩|⟨rfl,hm1,hsg,hbg⟩
        ·rw[hsg,List.drop_of_length_le (by rw[hsl];omega)]
         rfl
        ·exact hsg
        ·exact hsg
      have HN:=hid hn0
      clear hway hn0 hsl
      by_cases hs1:m<s.size
      ·have q1:(m:Int)+1≤s.size:=by omega
       have q2:¬ (m:Int)+1≤4:=by omega
       go_wp2
       go_meet
       case rel=>exact ⟨by rw[HN.out],hb⟩
      ·have q1:¬ (m:Int)+1≤s.size:=by omega
       go_wp2
       go_meet
       case rel=>exact ⟨by rw[HN.out],hb⟩
 case rest =>
 obtain ⟨rfl,hb0⟩:=hcut
 generalize hn:sgnL s.data.toList=n at *
 have hhd:=head_is s h0
 by_cases hz:n=0
 ·subst hz
  have hpc:pieceM s.data.toList 0=stranger:=by rw[hhd,pieceM_cons,if_pos rfl]
  have HR:=hid (fun w=>lit_rd w #[.int .u8 239,.int .u8 191,.int .u8 189] stranger rfl)
  have HPC:=hid hpc
  have HN:=hid hn
  clear hpc hhd hn hsl
  go_wp2
  go_ret2
  (try rw[HN.out])
  rw[HPC.out]
  exact ⟨_,_,rfl,(HR.out _).more (by simp),hb0.alloc hb0.size _⟩
 have gz:((n:Int)==0)=false:=beq_eq_false_iff_ne.2 (by omega)
 have HGO:=hid (show goOn n=n from if_neg hz)
 have HN:=hid hn
 have hnl:=(sgnL_take hn hz []).2.2
 rw[hsl] at hnl
 have hsz:(s.extract 0 n).size=n:=by rw[ByteArray.size_extract];omega
 have hdt:(s.extract 0 n).data.toList=s.data.toList.take n:=by
   have:=part_is s 0 n
   rwa [List.drop_zero,Nat.zero_add] at this
 have HCV:=hid (fun w=>conv_str13 w (s.extract 0 n))
 rw[hsz,hdt] at HCV
 have q0:n≤s.size:=hnl
 by_cases hn1:n=1
 ·subst hn1
  have hpc:pieceM s.data.toList 1=if escN s[0]≠0 then [92,escN s[0]] else if s[0].toNat<32 then ctlN s[0] else [s[0]]:=by
    rw[hhd,pieceM_cons,if_neg (by decide)]
    rfl
  by_cases he:escN s[0]≠0
  ·rw [if_pos he] at hpc
   have hc:=escN_cases he
   clear hhd hn hsl hdt hsz he HCV
   rcases hc with hc|hc|hc|hc|hc|hc|hc
   ·have hcI:(s[0].toNat:Int)=8:=by rw[hc];rfl
    have hE:[92,escN s[0]]=[92,98]:=by rw[hc];rfl
    have HR:=hid (fun w=>lit_rd w #[.int .u8 92,.int .u8 98] [92,98] rfl)
    have HPC:=hid (hpc.trans hE)
    clear hE hc hpc
    go_wp2_with (go_at_call 64;refine (letters13_any _).mono ?_;rintro e w3 ⟨rfl,o1,o2,hb3,hlt3⟩;have HO1:=hid o1;have HO2:=hid o2;have HB3:=hid (hb0.trans (hb3.mono hb0.size));clear o1 o2 hb3)
    have f0:=HO1.out.at 0
    have g0:=HO2.out.at 0
    have f1:=HO1.out.at 1
    have g1:=HO2.out.at 1
    have f2:=HO1.out.at 2
    have g2:=HO2.out.at 2
    have f3:=HO1.out.at 3
    have g3:=HO2.out.at 3
    have f4:=HO1.out.at 4
    have g4:=HO2.out.at 4
    have f5:=HO1.out.at 5
    have g5:=HO2.out.at 5
    have f6:=HO1.out.at 6
    have g6:=HO2.out.at 6
    simp[byteCells,fromL] at f0 f1 f2 f3 f4 f5 f6
    simp[byteCells,toL] at g0 g1 g2 g3 g4 g5 g6
    have qq1:((s[0].toNat:Int)==8)=true:=by rw[hcI];rfl
    clear hcI
    refine wp_loop_rounds 8 ?_
    rw[rounds_succ];go_wp2
    go_ret2
    (try rw[HN.out])
    rw[HPC.out,HGO.out]
    exact ⟨_,_,rfl,(HR.out _).more (by simp),HB3.out.alloc HB3.out.size _⟩
   ·have hcI:(s[0].toNat:Int)=9:=by rw[hc];rfl
    have hE:[92,escN s[0]]=[92,116]:=by rw[hc];rfl
    have HR:=hid (fun w=>lit_rd w #[.int .u8 92,.int .u8 116] [92,116] rfl)
    have HPC:=hid (hpc.trans hE)
    clear hE hc hpc
    go_wp2_with (go_at_call 64;refine (letters13_any _).mono ?_;rintro e w3 ⟨rfl,o1,o2,hb3,hlt3⟩;have HO1:=hid o1;have HO2:=hid o2;have HB3:=hid (hb0.trans (hb3.mono hb0.size));clear o1 o2 hb3)
    have f0:=HO1.out.at 0
    have g0:=HO2.out.at 0
    have f1:=HO1.out.at 1
    have g1:=HO2.out.at 1
    have f2:=HO1.out.at 2
    have g2:=HO2.out.at 2
    have f3:=HO1.out.at 3
    have g3:=HO2.out.at 3
    have f4:=HO1.out.at 4
    have g4:=HO2.out.at 4
    have f5:=HO1.out.at 5
    have g5:=HO2.out.at 5
    have f6:=HO1.out.at 6
    have g6:=HO2.out.at 6
    simp[byteCells,fromL] at f0 f1 f2 f3 f4 f5 f6
    simp[byteCells,toL] at g0 g1 g2 g3 g4 g5 g6
    have q01:((s[0].toNat:Int)==8)=false:=by rw[hcI];rfl
    have qq1:((s[0].toNat:Int)==9)=true:=by rw[hcI];rfl
    clear hcI
    refine wp_loop_rounds 8 ?_
    rw[rounds_succ];go_wp2
    rw[rounds_succ];go_wp2
    go_ret2
    (try rw[HN.out])
    rw[HPC.out,HGO.out]
    exact ⟨_,_,rfl,(HR.out _).more (by simp),HB3.out.alloc HB3.out.size _⟩
   ·have hcI:(s[0].toNat:Int)=10:=by rw[hc];rfl
    have hE:[92,escN s[0]]=[92,110]:=by rw[hc];rfl
    have HR:=hid (fun w=>lit_rd w #[.int .u8 92,.int .u8 110] [92,110] rfl)
    have HPC:=hid (hpc.trans hE)
    clear hE hc hpc
    go_wp2_with (go_at_call 64;refine (letters13_any _).mono ?_;rintro e w3 ⟨rfl,o1,o2,hb3,hlt3⟩;have HO1:=hid o1;have HO2:=hid o2;have HB3:=hid (hb0.trans (hb3.mono hb0.size));clear o1 o2 hb3)
    have f0:=HO1.out.at 0
    have g0:=HO2.out.at 0
    have f1:=HO1.out.at 1
    have g1:=HO2.out.at 1
    have f2:=HO1.out.at 2
    have g2:=HO2.out.at 2
    have f3:=HO1.out.at 3
    have g3:=HO2.out.at 3
    have f4:=HO1.out.at 4
    have g4:=HO2.out.at 4
    have f5:=HO1.out.at 5
    have g5:=HO2.out.at 5
    have f6:=HO1.out.at 6
    have g6:=HO2.out.at 6
    simp[byteCells,fromL] at f0 f1 f2 f3 f4 f5 f6
    simp[byteCells,toL] at g0 g1 g2 g3 g4 g5 g6
    have q01:((s[0].toNat:Int)==8)=false:=by rw[hcI];rfl
    have q11:((s[0].toNat:Int)==9)=false:=by rw[hcI];rfl
    have qq1:((s[0].toNat:Int)==10)=true:=by rw[hcI];rfl
    clear hcI
    refine wp_loop_rounds 8 ?_
    rw[rounds_succ];go_wp2
    rw[rounds_succ];go_wp2
    rw[rounds_succ];go_wp2
    go_ret2
    (try rw[HN.out])
    rw[HPC.out,HGO.out]
    exact ⟨_,_,rfl,(HR.out _).more (by simp),HB3.out.alloc HB3.out.size _⟩
   ·have hcI:(s[0].toNat:Int)=12:=by rw[hc];rfl
    have hE:[92,escN s[0]]=[92,102]:=by rw[hc];rfl
    have HR:=hid (fun w=>lit_rd w #[.int .u8 92,.int .u8 102] [92,102] rfl)
    have HPC:=hid (hpc.trans hE)
    clear hE hc hpc
    go_wp2_with (go_at_call 64;refine (letters13_any _).mono ?_;rintro e w3 ⟨rfl,o1,o2,hb3,hlt3⟩;have HO1:=hid o1;have HO2:=hid o2;have HB3:=hid (hb0.trans (hb3.mono hb0.size));clear o1 o2 hb3)
    have f0:=HO1.out.at 0
    have g0:=HO2.out.at 0
    have f1:=HO1.out.at 1
    have g1:=HO2.out.at 1
    have f2:=HO1.out.at 2
    have g2:=HO2.out.at 2
    have f3:=HO1.out.at 3
    have g3:=HO2.out.at 3
    have f4:=HO1.out.at 4
    have g4:=HO2.out.at 4
    have f5:=HO1.out.at 5
    have g5:=HO2.out.at 5
    have f6:=HO1.out.at 6
    have g6:=HO2.out.at 6
    simp[byteCells,fromL] at f0 f1 f2 f3 f4 f5 f6
    simp[byteCells,toL] at g0 g1 g2 g3 g4 g5 g6
    have q01:((s[0].toNat:Int)==8)=false:=by rw[hcI];rfl
    have q11:((s[0].toNat:Int)==9)=false:=by rw[hcI];rfl
    have q21:((s[0].toNat:Int)==10)=false:=by rw[hcI];rfl
    have qq1:((s[0].toNat:Int)==12)=true:=by rw[hcI];rfl
    clear hcI
    refine wp_loop_rounds 8 ?_
    rw[rounds_succ];go_wp2
    rw[rounds_succ];go_wp2
    rw[rounds_succ];go_wp2
    rw[rounds_succ];go_wp2
    go_ret2
    (try rw[HN.out])
    rw[HPC.out,HGO.out]
    exact ⟨_,_,rfl,(HR.out _).more (by simp),HB3.out.alloc HB3.out.size _⟩
   ·have hcI:(s[0].toNat:Int)=13:=by rw[hc];rfl
    have hE:[92,escN s[0]]=[92,114]:=by rw[hc];rfl
    have HR:=hid (fun w=>lit_rd w #[.int .u8 92,.int .u8 114] [92,114] rfl)
    have HPC:=hid (hpc.trans hE)
    clear hE hc hpc
    go_wp2_with (go_at_call 64;refine (letters13_any _).mono ?_;rintro e w3 ⟨rfl,o1,o2,hb3,hlt3⟩;have HO1:=hid o1;have HO2:=hid o2;have HB3:=hid (hb0.trans (hb3.mono hb0.size));clear o1 o2 hb3)
    have f0:=HO1.out.at 0
    have g0:=HO2.out.at 0
    have f1:=HO1.out.at 1
    have g1:=HO2.out.at 1
    have f2:=HO1.out.at 2
    have g2:=HO2.out.at 2
    have f3:=HO1.out.at 3
    have g3:=HO2.out.at 3
    have f4:=HO1.out.at 4
    have g4:=HO2.out.at 4
    have f5:=HO1.out.at 5
    have g5:=HO2.out.at 5
    have f6:=HO1.out.at 6
    have g6:=HO2.out.at 6
    simp[byteCells,fromL] at f0 f1 f2 f3 f4 f5 f6
    simp[byteCells,toL] at g0 g1 g2 g3 g4 g5 g6
    have q01:((s[0].toNat:Int)==8)=false:=by rw[hcI];rfl
    have q11:((s[0].toNat:Int)==9)=false:=by rw[hcI];rfl
    have q21:((s[0].toNat:Int)==10)=false:=by rw[hcI];rfl
    have q31:((s[0].toNat:Int)==12)=false:=by rw[hcI];rfl
    have qq1:((s[0].toNat:Int)==13)=true:=by rw[hcI];rfl
    clear hcI
    refine wp_loop_rounds 8 ?_
    rw[rounds_succ];go_wp2
    rw[rounds_succ];go_wp2
    rw[rounds_succ];go_wp2
    rw[rounds_succ];go_wp2
    rw[rounds_succ];go_wp2
    go_ret2
    (try rw[HN.out])
    rw[HPC.out,HGO.out]
    exact ⟨_,_,rfl,(HR.out _).more (by simp),HB3.out.alloc HB3.out.size _⟩
   ·have hcI:(s[0].toNat:Int)=39:=by rw[hc];rfl
    have hE:[92,escN s[0]]=[92,39]:=by rw[hc];rfl
    have HR:=hid (fun w=>lit_rd w #[.int .u8 92,.int .u8 39] [92,39] rfl)
    have HPC:=hid (hpc.trans hE)
    clear hE hc hpc
    go_wp2_with (go_at_call 64;refine (letters13_any _).mono ?_;rintro e w3 ⟨rfl,o1,o2,hb3,hlt3⟩;have HO1:=hid o1;have HO2:=hid o2;have HB3:=hid (hb0.trans (hb3.mono hb0.size));clear o1 o2 hb3)
    have f0:=HO1.out.at 0
    have g0:=HO2.out.at 0
    have f1:=HO1.out.at 1
    have g1:=HO2.out.at 1
    have f2:=HO1.out.at 2
    have g2:=HO2.out.at 2
    have f3:=HO1.out.at 3
    have g3:=HO2.out.at 3
    have f4:=HO1.out.at 4
    have g4:=HO2.out.at 4
    have f5:=HO1.out.at 5
    have g5:=HO2.out.at 5
    have f6:=HO1.out.at 6
    have g6:=HO2.out.at 6
    simp[byteCells,fromL] at f0 f1 f2 f3 f4 f5 f6
    simp[byteCells,toL] at g0 g1 g2 g3 g4 g5 g6
    have q01:((s[0].toNat:Int)==8)=false:=by rw[hcI];rfl
    have q11:((s[0].toNat:Int)==9)=false:=by rw[hcI];rfl
    have q21:((s[0].toNat:Int)==10)=false:=by rw[hcI];rfl
    have q31:((s[0].toNat:Int)==12)=false:=by rw[hcI];rfl
    have q41:((s[0].toNat:Int)==13)=false:=by rw[hcI];rfl
    have qq1:((s[0].toNat:Int)==39)=true:=by rw[hcI];rfl
    clear hcI
    refine wp_loop_rounds 8 ?_
    rw[rounds_succ];go_wp2
    rw[rounds_succ];go_wp2
    rw[rounds_succ];go_wp2
    rw[rounds_succ];go_wp2
    rw[rounds_succ];go_wp2
    rw[rounds_succ];go_wp2
    go_ret2
    (try rw[HN.out])
    rw[HPC.out,HGO.out]
    exact ⟨_,_,rfl,(HR.out _).more (by simp),HB3.out.alloc HB3.out.size _⟩
   ·have hcI:(s[0].toNat:Int)=92:=by rw[hc];rfl
    have hE:[92,escN s[0]]=[92,92]:=by rw[hc];rfl
    have HR:=hid (fun w=>lit_rd w #[.int .u8 92,.int .u8 92] [92,92] rfl)
    have HPC:=hid (hpc.trans hE)
    clear hE hc hpc
    go_wp2_with (go_at_call 64;refine (letters13_any _).mono ?_;rintro e w3 ⟨rfl,o1,o2,hb3,hlt3⟩;have HO1:=hid o1;have HO2:=hid o2;have HB3:=hid (hb0.trans (hb3.mono hb0.size));clear o1 o2 hb3)
    have f0:=HO1.out.at 0
    have g0:=HO2.out.at 0
    have f1:=HO1.out.at 1
    have g1:=HO2.out.at 1
    have f2:=HO1.out.at 2
    have g2:=HO2.out.at 2
    have f3:=HO1.out.at 3
    have g3:=HO2.out.at 3
    have f4:=HO1.out.at 4
    have g4:=HO2.out.at 4
    have f5:=HO1.out.at 5
    have g5:=HO2.out.at 5
    have f6:=HO1.out.at 6
    have g6:=HO2.out.at 6
    simp[byteCells,fromL] at f0 f1 f2 f3 f4 f5 f6
    simp[byteCells,toL] at g0 g1 g2 g3 g4 g5 g6
    have q01:((s[0].toNat:Int)==8)=false:=by rw[hcI];rfl
    have q11:((s[0].toNat:Int)==9)=false:=by rw[hcI];rfl
    have q21:((s[0].toNat:Int)==10)=false:=by rw[hcI];rfl
    have q31:((s[0].toNat:Int)==12)=false:=by rw[hcI];rfl
    have q41:((s[0].toNat:Int)==13)=false:=by rw[hcI];rfl
    have q51:((s[0].toNat:Int)==39)=false:=by rw[hcI];rfl
    have qq1:((s[0].toNat:Int)==92)=true:=by rw[hcI];rfl
    clear hcI
    refine wp_loop_rounds 8 ?_
    rw[rounds_succ];go_wp2
    rw[rounds_succ];go_wp2
    rw[rounds_succ];go_wp2
    rw[rounds_succ];go_wp2
    rw[rounds_succ];go_wp2
    rw[rounds_succ];go_wp2
    rw[rounds_succ];go_wp2
    go_ret2
    (try rw[HN.out])
    rw[HPC.out,HGO.out]
    exact ⟨_,_,rfl,(HR.out _).more (by simp),HB3.out.alloc HB3.out.size _⟩
  ·rw [if_neg he] at hpc
   have he:=Classical.not_not.1 he
   by_cases h32:s[0].toNat<32
   ·rw [if_pos h32] at hpc
    have h32I:(s[0].toNat:Int)<32:=by omega
    have KL1:=hid (fun w=>rlowerN_any (s[0].toNat/16) (by omega) w)
    have KL2:=hid (fun w=>rlowerN_any (s[0].toNat%16) (by omega) w)
    rw[show ((s[0].toNat/16:Nat):Int)=(s[0].toNat:Int)/16 by omega] at KL1
    rw[show ((s[0].toNat%16:Nat):Int)=(s[0].toNat:Int)%16 by omega] at KL2
    have hc8:s[0].toNat≤255:=by have:=UInt8.toNat_lt s[0];omega
    have e1:IntKind.i64.wrap (s[0].toNat:Int)=s[0].toNat:=by rw[IntKind.wrap_i64];omega
    have e2:(s[0].toNat:Int).tdiv 16=(s[0].toNat:Int)/16:=Int.tdiv_eq_ediv_of_nonneg (by omega)
    have e3:IntKind.i64.wrap ((s[0].toNat:Int)/16)=(s[0].toNat:Int)/16:=by rw[IntKind.wrap_i64];omega
    have e4:(s[0].toNat:Int).tmod 16=(s[0].toNat:Int)%16:=Int.tmod_eq_emod_of_nonneg (by omega)
    have e5:IntKind.i64.wrap ((s[0].toNat:Int)%16)=(s[0].toNat:Int)%16:=by rw[IntKind.wrap_i64];omega
    have HR:=hid (fun w=>lit_rd w #[.int .u8 92,.int .u8 117,.int .u8 48,.int .u8 48,.int .u8 (lowB (s[0].toNat/16)).toNat,.int .u8 (lowB (s[0].toNat%16)).toNat] (ctlN s[0]) rfl)
    have hct:(ctlN s[0]).length=6:=rfl
    rw[hct] at HR
    have HPC:=hid hpc
    go_wp2_with (go_at_call 64;refine (letters13_any _).mono ?_;rintro e w3 ⟨rfl,o1,o2,hb3,hlt3⟩;have HO1:=hid o1;have HO2:=hid o2;have HB3:=hid (hb0.trans (hb3.mono hb0.size));clear o1 o2 hb3)
    have f0:=HO1.out.at 0
    have g0:=HO2.out.at 0
    have f1:=HO1.out.at 1
    have g1:=HO2.out.at 1
    have f2:=HO1.out.at 2
    have g2:=HO2.out.at 2
    have f3:=HO1.out.at 3
    have g3:=HO2.out.at 3
    have f4:=HO1.out.at 4
    have g4:=HO2.out.at 4
    have f5:=HO1.out.at 5
    have g5:=HO2.out.at 5
    have f6:=HO1.out.at 6
    have g6:=HO2.out.at 6
    simp[byteCells,fromL] at f0 f1 f2 f3 f4 f5 f6
    simp[byteCells,toL] at g0 g1 g2 g3 g4 g5 g6
    have q01:((s[0].toNat:Int)==8)=false:=beq_eq_false_iff_ne.2 (fun e=>by have e2:s[0]=8:=UInt8.toNat_inj.1 (by rw[show ((8:UInt8).toNat)=8 from rfl];omega);rw[e2] at he;exact absurd he (by decide))
    have q11:((s[0].toNat:Int)==9)=false:=beq_eq_false_iff_ne.2 (fun e=>by have e2:s[0]=9:=UInt8.toNat_inj.1 (by rw[show ((9:UInt8).toNat)=9 from rfl];omega);rw[e2] at he;exact absurd he (by decide))
    have q21:((s[0].toNat:Int)==10)=false:=beq_eq_false_iff_ne.2 (fun e=>by have e2:s[0]=10:=UInt8.toNat_inj.1 (by rw[show ((10:UInt8).toNat)=10 from rfl];omega);rw[e2] at he;exact absurd he (by decide))
    have q31:((s[0].toNat:Int)==12)=false:=beq_eq_false_iff_ne.2 (fun e=>by have e2:s[0]=12:=UInt8.toNat_inj.1 (by rw[show ((12:UInt8).toNat)=12 from rfl];omega);rw[e2] at he;exact absurd he (by decide))
    have q41:((s[0].toNat:Int)==13)=false:=beq_eq_false_iff_ne.2 (fun e=>by have e2:s[0]=13:=UInt8.toNat_inj.1 (by rw[show ((13:UInt8).toNat)=13 from rfl];omega);rw[e2] at he;exact absurd he (by decide))
    have q51:((s[0].toNat:Int)==39)=false:=beq_eq_false_iff_ne.2 (fun e=>by have e2:s[0]=39:=UInt8.toNat_inj.1 (by rw[show ((39:UInt8).toNat)=39 from rfl];omega);rw[e2] at he;exact absurd he (by decide))
    have q61:((s[0].toNat:Int)==92)=false:=beq_eq_false_iff_ne.2 (fun e=>by have e2:s[0]=92:=UInt8.toNat_inj.1 (by rw[show ((92:UInt8).toNat)=92 from rfl];omega);rw[e2] at he;exact absurd he (by decide))
    clear hhd hn hsl hdt hsz he hct HCV hpc
    refine wp_loop_rounds 8 ?_
    rw[rounds_succ];go_wp2
    rw[rounds_succ];go_wp2
    rw[rounds_succ];go_wp2
    rw[rounds_succ];go_wp2
    rw[rounds_succ];go_wp2
    rw[rounds_succ];go_wp2
    rw[rounds_succ];go_wp2
    rw[rounds_succ]
    go_upto_region 18 with fail
    clear q01 q11 q21 q31 q41 q51 q61 f0 f1 f2 f3 f4 f5 f6 g0 g1 g2 g3 g4 g5 g6
    go_region_with (first
      | (go_at_call 65;with_reducible refine (KL1.out _).mono ?_;rintro e w' ⟨rfl,rfl⟩)
      | (go_at_call 65;with_reducible refine (KL2.out _).mono ?_;rintro e w' ⟨rfl,rfl⟩))
    all_goals
      go_wp2
      go_ret2
      (try rw[HN.out])
      rw[HPC.out,HGO.out]
      exact ⟨_,_,rfl,(HR.out _).more (by simp),HB3.out.drew.alloc HB3.out.size _⟩
   ·rw[if_neg h32] at hpc
    have HPC:=hid hpc
    have h32I:¬ (s[0].toNat:Int)<32:=by omega
    have htk:s.data.toList.take 1=[s[0]]:=by rw[hhd];rfl
    rw[htk] at HCV
    go_wp2_with (go_at_call 64;refine (letters13_any _).mono ?_;rintro e w3 ⟨rfl,o1,o2,hb3,hlt3⟩;have HO1:=hid o1;have HO2:=hid o2;have HB3:=hid (hb0.trans (hb3.mono hb0.size));clear o1 o2 hb3)
    have f0:=HO1.out.at 0
    have g0:=HO2.out.at 0
    have f1:=HO1.out.at 1
    have g1:=HO2.out.at 1
    have f2:=HO1.out.at 2
    have g2:=HO2.out.at 2
    have f3:=HO1.out.at 3
    have g3:=HO2.out.at 3
    have f4:=HO1.out.at 4
    have g4:=HO2.out.at 4
    have f5:=HO1.out.at 5
    have g5:=HO2.out.at 5
    have f6:=HO1.out.at 6
    have g6:=HO2.out.at 6
    simp[byteCells,fromL] at f0 f1 f2 f3 f4 f5 f6
    simp[byteCells,toL] at g0 g1 g2 g3 g4 g5 g6
    have q01:((s[0].toNat:Int)==8)=false:=beq_eq_false_iff_ne.2 (fun e=>by have e2:s[0]=8:=UInt8.toNat_inj.1 (by rw[show ((8:UInt8).toNat)=8 from rfl];omega);rw[e2] at he;exact absurd he (by decide))
    have q11:((s[0].toNat:Int)==9)=false:=beq_eq_false_iff_ne.2 (fun e=>by have e2:s[0]=9:=UInt8.toNat_inj.1 (by rw[show ((9:UInt8).toNat)=9 from rfl];omega);rw[e2] at he;exact absurd he (by decide))
    have q21:((s[0].toNat:Int)==10)=false:=beq_eq_false_iff_ne.2 (fun e=>by have e2:s[0]=10:=UInt8.toNat_inj.1 (by rw[show ((10:UInt8).toNat)=10 from rfl];omega);rw[e2] at he;exact absurd he (by decide))
    have q31:((s[0].toNat:Int)==12)=false:=beq_eq_false_iff_ne.2 (fun e=>by have e2:s[0]=12:=UInt8.toNat_inj.1 (by rw[show ((12:UInt8).toNat)=12 from rfl];omega);rw[e2] at he;exact absurd he (by decide))
    have q41:((s[0].toNat:Int)==13)=false:=beq_eq_false_iff_ne.2 (fun e=>by have e2:s[0]=13:=UInt8.toNat_inj.1 (by rw[show ((13:UInt8).toNat)=13 from rfl];omega);rw[e2] at he;exact absurd he (by decide))
    have q51:((s[0].toNat:Int)==39)=false:=beq_eq_false_iff_ne.2 (fun e=>by have e2:s[0]=39:=UInt8.toNat_inj.1 (by rw[show ((39:UInt8).toNat)=39 from rfl];omega);rw[e2] at he;exact absurd he (by decide))
    have q61:((s[0].toNat:Int)==92)=false:=beq_eq_false_iff_ne.2 (fun e=>by have e2:s[0]=92:=UInt8.toNat_inj.1 (by rw[show ((92:UInt8).toNat)=92 from rfl];omega);rw[e2] at he;exact absurd he (by decide))
    obtain ⟨c9,w9,cv9,rd9,hb9⟩:=HCV.out w3
    have HR9:=hid rd9
    have HB9:=hid (HB3.out.trans (hb9.mono HB3.out.size))
    clear hhd hn hsl hdt hsz he HCV htk rd9 hb9 hpc
    refine wp_loop_rounds 8 ?_
    rw[rounds_succ];go_wp2
    rw[rounds_succ];go_wp2
    rw[rounds_succ];go_wp2
    rw[rounds_succ];go_wp2
    rw[rounds_succ];go_wp2
    rw[rounds_succ];go_wp2
    rw[rounds_succ];go_wp2
    rw[rounds_succ];go_wp2
    go_ret2
    (try rw[HN.out])
    rw[HPC.out,HGO.out]
    exact ⟨_,_,rfl,HR9.out,HB9.out⟩
 ·have gn:((n:Int)==1)=false:=beq_eq_false_iff_ne.2 (by omega)
  have hlong:128≤s[0].toNat:=by
    have hd:s.data.toList.drop 0=s.data.toList:=List.drop_zero
    exact sgn_long s.data.toList 0 n h0 (by rw[hd];exact hn) (by omega)
  have hpc:pieceM s.data.toList n=s.data.toList.take n:=by
    have he:escN s[0]=0:=by
      by_cases he:escN s[0]=0
      ·exact he
      ·exfalso
       rcases escN_cases he with e|e|e|e|e|e|e<;>rw[e] at hlong<;>revert hlong<;>decide
    rw[hhd,pieceM_cons,if_neg hz,if_neg (by simp[he]),if_neg (by omega)]
  have hlen:(pieceM s.data.toList n).length=n:=by rw[hpc,List.length_take];omega
  have HPC:=hid hpc
  have HLN:=hid hlen
  go_wp2_with (go_at_call 64;refine (letters13_any _).mono ?_;rintro e w3 ⟨rfl,o1,o2,hb3,hlt3⟩;have HO1:=hid o1;have HO2:=hid o2;have HB3:=hid (hb0.trans (hb3.mono hb0.size));clear o1 o2 hb3)
  have f0:=HO1.out.at 0
  have g0:=HO2.out.at 0
  have f1:=HO1.out.at 1
  have g1:=HO2.out.at 1
  have f2:=HO1.out.at 2
  have g2:=HO2.out.at 2
  have f3:=HO1.out.at 3
  have g3:=HO2.out.at 3
  have f4:=HO1.out.at 4
  have g4:=HO2.out.at 4
  have f5:=HO1.out.at 5
  have g5:=HO2.out.at 5
  have f6:=HO1.out.at 6
  have g6:=HO2.out.at 6
  simp[byteCells,fromL] at f0 f1 f2 f3 f4 f5 f6
  simp[byteCells,toL] at g0 g1 g2 g3 g4 g5 g6
  obtain ⟨c9,w9,cv9,rd9,hb9⟩:=HCV.out w3
  have HR9:=hid rd9
  have HB9:=hid (HB3.out.trans (hb9.mono HB3.out.size))
  clear hhd hn hsl hdt hsz HCV hpc hlen hlong rd9 hb9
  refine wp_loop_rounds 8 ?_
  rw[rounds_succ];go_wp2
  rw[rounds_succ];go_wp2
  rw[rounds_succ];go_wp2
  rw[rounds_succ];go_wp2
  rw[rounds_succ];go_wp2
  rw[rounds_succ];go_wp2
  rw[rounds_succ];go_wp2
  rw[rounds_succ];go_wp2
  go_ret2
  (try rw[HN.out])
  rw[HLN.out,HPC.out,HGO.out]
  exact ⟨_,_,rfl,HR9.out,HB9.out⟩
end
section
open Go.RowKit
theorem pieceM_six (l:List UInt8) (n:Nat):(pieceM l n).length≤6*goOn n:=by
 have hg:=goOn_pos n
 cases l with
 | nil=>show 0≤_;omega
 | cons c t =>
   rw[pieceM_cons]
   split
   ·show 3≤_;omega
   ·split
    ·show 2≤_;omega
    ·split
     ·show 6≤_;omega
     ·rename_i h _ _
      rw[List.length_take]
      have:goOn n=n:=if_neg h
      omega
theorem tail13 (s:ByteArray) (k:Nat) (hk:k≤s.size):(s.extract k s.size).data.toList=s.data.toList.drop k:=by
 rw[ByteArray.data_extract,Array.toList_extract,List.extract_eq_take_drop]
 refine List.take_of_length_le ?_
 rw[List.length_drop]
 exact Nat.le_refl _
theorem sgn_in (l:List UInt8) (h:l≠[]):goOn (sgnL l)≤l.length:=by
 unfold goOn
 split
 ·cases l with
  | nil=>exact absurd rfl h
  | cons c t=>simp
 ·rename_i h0
  exact (sgnL_take rfl h0 []).2.2
def RelNm (s:ByteArray) (W wr:World) (o a:Value):Prop :=
 ∃ (k:Nat) (d:List UInt8),k≤s.size∧a=.int .i64 k∧Buf wr W.heap.size o (39 :: d)∧d.length≤6*k∧nameM s.data.toList=d++nameM (s.data.toList.drop k)∧Below W.heap.size W wr
theorem name13_any (s:ByteArray) (W:World) (hs:s.size≤1000) :
   Calls Tryd.prog 24 #[.string s] W fun e w'=>e=.returned (.string ⟨(nameT s.data.toList).toArray⟩)∧Below W.heap.size W w':=by
 have hsl:s.data.toList.length=s.size:=rfl
 unfold nameT
 go_enter Tryd.func24,Tryd.ntmps24
 go_wp2
 go_loopw [3,4] (fun o a wr=>RelNm s W wr o a) (fun _ a _=>s.size-(intOf a).toNat)
 case atStart=>exact ⟨0,[],Nat.zero_le _,rfl,Buf.made W _ [39] rfl (by simp[maxLen]) (Nat.le_refl _),by simp,rfl,(Below.refl _ _).alloc (Nat.le_refl _) _⟩
 case round =>
   obtain ⟨k,d,hk,rfl,hbuf,hd,hput,hbel⟩:=hrel
   by_cases hlt:k<s.size
   ·have hne:s.data.toList.drop k≠[]:=fun e=>by
      have:=congrArg List.length e
      rw[List.length_drop,List.length_nil] at this
      omega
    have hin:=sgn_in _ hne
    rw[List.length_drop,hsl] at hin
    have hstep:nameM (s.data.toList.drop k)=pieceM (s.data.toList.drop k) (sgnL (s.data.toList.drop k))++nameM (s.data.toList.drop (k+goOn (sgnL (s.data.toList.drop k)))):=by
      rw[← List.drop_drop]
      cases hq:s.data.toList.drop k with
      | nil=>exact absurd hq hne
      | cons c t=>rw[nameM_cons]
    have hpl:=pieceM_six (s.data.toList.drop k) (sgnL (s.data.toList.drop k))
    have hgp:=goOn_pos (sgnL (s.data.toList.drop k))
    have HS:=hid (fun w=>sign13_any (s.extract k s.size) w (by rw[ByteArray.size_extract];omega) (by rw[ByteArray.size_extract];omega))
    unfold SgnEnd at HS
    rw[tail13 s k hk] at HS
    have HP:=hid (hput.trans (by rw[hstep]))
    clear hput hstep hne hsl
    generalize pieceM (s.data.toList.drop k) (sgnL (s.data.toList.drop k))=P at *
    generalize goOn (sgnL (s.data.toList.drop k))=n at *
    generalize hL:P.length=L at *
    have HL:=hid hL
    clear hL
    have HBF:=hid hbuf
    have HBL:=hid hbel
    clear hbuf hbel
    go_wp2_with (first
      | (go_at_call 51
         go_must (
           refine (HS.out _).mono ?_
           rintro e w3 ⟨g3,c3,rfl,rd3,hb3⟩
           have hbuf3:=HBF.out.stay hb3 (Nat.le_refl _)
           have hb3':=HBL.out.trans (hb3.mono HBL.out.size)
           have hz3:=hb3'.size))
      | (at_builtin
         go_must (
           refine buf_append _ rfl (.tmp 19) (.tmp 20) rfl W.heap.size _ (39 :: d) rfl hbuf3 _ _ L _ P rfl rd3 (by simp only [List.length_cons];omega) hz3 ?_
           intro v4 w4 hbuf4 hb4
           have hb4':=hb3'.trans hb4)))
    go_roundw
    case rel=>exact ⟨k+n,d++P,by omega,by go_num,hbuf4,(by rw[List.length_append,HL.out];omega),(by rw[HP.out,List.append_assoc]),hb4'⟩
    case measure=>simp[intOf];omega
   ·have hke:k=s.size:=by omega
    have hout:nameM s.data.toList=d:=by
      rw[hput,List.drop_of_length_le (by rw[hsl,hke];exact Nat.le_refl _)]
      show d++[]=d
      rw[List.append_nil]
    have HO:=hid hout
    have hltI:¬ (k:Int)<s.size:=by omega
    have hbuf3:=hbuf.stay (hbel.mono (Nat.le_refl _) |> fun _=>below1 wr (.cells #[.int .u8 39] 5)) (Nat.le_refl _)
    have rd3:=lit_rd wr #[.int .u8 39] [39] rfl
    have hz3:=Nat.le_trans hbel.size (below1 wr (.cells #[.int .u8 39] 5)).size
    have HB3:=hid (hbel.alloc hbel.size (.cells #[.int .u8 39] 5))
    clear hput hout hbel hsl hke
    go_wp2_with (first
      | (at_builtin
         go_must (
           refine buf_append _ rfl (.tmp 25) (.tmp 26) rfl W.heap.size _ (39 :: d) rfl hbuf3 _ _ 1 _ [39] rfl rd3 (by simp only [List.length_cons];omega) hz3 ?_
           intro v4 w4 hbuf4 hb4
           have cv4:=hbuf4.conv
           have HB4:=hid (HB3.out.trans hb4)
           clear hbuf4 hb4)))
    go_ret
    rw[HO.out]
    exact ⟨rfl,HB4.out⟩
end
section
open Go.RowKit
def RdP (w:World) (A:Option Addr) (m:Nat) (l:List Pst):Prop :=
 l.length=m∧(0<m → ∃ a:Addr,A=some a∧a.block<w.heap.size ∧ ∀ i s,l[i]?=some s→w.cell? (a.add (i*3))=some (.bool s.named)∧w.cell? ⟨(a.add (i*3)).block,(a.add (i*3)).off+1,none⟩=some (.string ⟨s.name.toArray⟩)∧w.cell? ⟨(a.add (i*3)).block,(a.add (i*3)).off+2,none⟩=some (.int .i64 s.index))
theorem add_block13 (a:Addr)(j:Nat):(a.add j).block=a.block:=by unfold Addr.add;split<;>rfl
theorem RdP.stay {w w':World} {A:Option Addr} {m:Nat} {l:List Pst} (h:RdP w A m l) (hb:Below w.heap.size w w'):RdP w' A m l:=by
 refine ⟨h.1,fun hm => ?_⟩
 obtain ⟨a,e,ha,hc⟩:=h.2 hm
 refine ⟨a,e,Nat.lt_of_lt_of_le ha hb.size,fun i s hs => ?_⟩
 obtain ⟨h0,h1,h2⟩:=hc i s hs
 have ha':(a.add (i*3)).block<w.heap.size:=by rw[add_block13];exact ha
 exact ⟨(hb.cell ha').trans h0,(hb.cell (p:=⟨(a.add (i*3)).block,(a.add (i*3)).off+1,none⟩) ha').trans h1,(hb.cell (p:=⟨(a.add (i*3)).block,(a.add (i*3)).off+2,none⟩) ha').trans h2⟩
def wtP (l:List Pst):Nat:=(l.map fun s=>s.name.length+1).sum
theorem name_le (l:List UInt8):∀ (f:Nat) (m:List UInt8),m.length≤f→(nameM m).length≤6*m.length
 | _,[],_=>by simp[nameM,nameGo]
 | 0,_ :: _,h=>by simp at h
 | f+1,c :: t,h=>by
   have hp:=pieceM_six (c :: t) (sgnL (c :: t))
   have hg:=goOn_pos (sgnL (c :: t))
   have hi:=sgn_in (c :: t) (by simp)
   have ih:=name_le l f ((c :: t).drop (goOn (sgnL (c :: t)))) (by rw[List.length_drop];simp at h ⊢;omega)
   rw[List.length_drop] at ih
   rw[nameM_cons,List.length_append]
   omega
theorem step_len (s:Pst) (h:rightB s=true):(stepT s).length≤20*(s.name.length+1):=by
 unfold stepT
 cases hn:s.named
 ·obtain ⟨_,h1,h2⟩:=right_index h hn
  have:=digN_len 15 s.index.toNat (by simp;omega)
  rw[if_neg (by decide)]
  simp
  omega
 ·have:=name_le [] s.name.length s.name (Nat.le_refl _)
  rw[if_pos rfl]
  unfold nameT
  simp
  omega
theorem flat_le:∀ l:List Pst,l.all rightB=true→(l.flatMap stepT).length≤20*wtP l
 | [],_=>Nat.zero_le _
 | s :: l,h=>by
   simp only [List.all_cons,Bool.and_eq_true] at h
   have h1:=step_len s h.1
   have h2:=flat_le l h.2
   have e:(s :: l).flatMap stepT=stepT s++l.flatMap stepT:=rfl
   have e2:wtP (s :: l)=s.name.length+1+wtP l:=by unfold wtP;simp
   rw[e,List.length_append,e2]
   omega
theorem wt_take (l:List Pst):∀ k,wtP (l.take k)≤wtP l:=by
 induction l with
 | nil=>intro k;simp[wtP]
 | cons s l ih =>
   intro k
   cases k with
   | zero=>simp[wtP]
   | succ k =>
     have:=ih k
     have e1:wtP ((s :: l).take (k+1))=s.name.length+1+wtP (l.take k):=by unfold wtP;simp
     have e2:wtP (s :: l)=s.name.length+1+wtP l:=by unfold wtP;simp
     omega
theorem wt_length:∀ l:List Pst,l.length≤wtP l
 | []=>Nat.zero_le _
 | s :: l=>by
   have:=wt_length l
   have e2:wtP (s :: l)=s.name.length+1+wtP l:=by unfold wtP;simp
   simp only [List.length_cons]
   omega
theorem wt_in {l:List Pst} {i:Nat} {s:Pst} (h:l[i]?=some s):s.name.length+1≤wtP l:=by
 induction l generalizing i with
 | nil=>cases h
 | cons a l ih =>
   have e2:wtP (a :: l)=a.name.length+1+wtP l:=by unfold wtP;simp
   cases i with
   | zero =>
     have:a=s:=by simpa using h
     subst this
     omega
   | succ i =>
     have:=ih (i:=i) (by simpa using h)
     omega
theorem join13 (x y:List UInt8):(⟨x.toArray⟩:ByteArray)++(((⟨#[91]⟩:ByteArray)++⟨y.toArray⟩)++⟨#[93]⟩)=⟨(x++91 :: (y++[93])).toArray⟩:=by
 apply ByteArray.ext
 simp
theorem take_all {l:List Pst} {k:Nat} (hk:k<l.length):(l.take (k+1)).all rightB=((l.take k).all rightB&&rightB l[k]):=by
 rw[List.take_succ_eq_append_getElem hk,List.all_append]
 simp
theorem take_flat {l:List Pst} {k:Nat} (hk:k<l.length):(l.take (k+1)).flatMap stepT=(l.take k).flatMap stepT++stepT l[k]:=by
 rw[List.take_succ_eq_append_getElem hk,List.flatMap_append]
 simp
theorem all_not {l:List Pst} {k:Nat} (hk:k<l.length) (h:¬ rightB l[k]=true):putP l=[]:=by
 unfold putP
 rw[if_neg]
 intro ha
 exact h (List.all_eq_true.1 ha _ (List.getElem_mem hk))
def RelPt (W:World) (l:List Pst) (s i:Value) (wr:World):Prop :=
 ∃ k:Nat,k≤l.length∧i=.int .i64 k∧(l.take k).all rightB=true∧s=.string ⟨(36 :: (l.take k).flatMap stepT).toArray⟩∧Below W.heap.size W wr
theorem put13_any (l:List Pst) (A:Option Addr) (n c:Nat) (W:World) (hx:RdP W A n l) (hw:wtP l≤1000) :
   Calls Tryd.prog 17 #[.slice A n c] W fun e w'=>e=.returned (.string ⟨(putP l).toArray⟩)∧Below W.heap.size W w':=by
 have hl:l.length=n:=hx.1
 have HX:=hid hx
 clear hx
 go_enter Tryd.func17,Tryd.ntmps17
 go_wp2
 go_loopw [3,8] (fun s i wr=>RelPt W l s i wr) (fun _ i _=>l.length-(intOf i).toNat)
 case atStart=>exact ⟨0,Nat.zero_le _,rfl,rfl,rfl,Below.refl _ _⟩
 case round =>
   obtain ⟨k,hk,rfl,hr,rfl,hb⟩:=hrel
   have hk9:(k:Int)≤1000:=by have:=wt_length l;omega
   by_cases hlt:k<l.length
   ·have hltI : (k:Int)<n:=by omega
    have hX2:=HX.out.stay hb
    obtain ⟨a,rfl,ha,hc⟩:=hX2.2 (by omega)
    obtain ⟨s0,s1,s2⟩:=hc k l[k] (List.getElem?_eq_getElem hlt)
    have HTA:=hid (take_all hlt)
    have HTF:=hid (take_flat hlt)
    have HNO:=hid (fun h=>all_not hlt h)
    have hwn:=wt_in (List.getElem?_eq_getElem hlt)
    have hsz:=flat_le (l.take k) hr
    have hwk:=wt_take l k
    generalize hsk:l[k]=sk at *
    have HR:=hid (fun w=>rright13_any sk w (by unfold maxLen;omega))
    unfold stpV at HR
    have o1:=Own.fresh wr 37 #[.bool sk.named,.string ⟨sk.name.toArray⟩,.int .i64 sk.index]
    have hbA:=hb.trans ((below1 wr (.cells #[.bool sk.named,.string ⟨sk.name.toArray⟩,.int .i64 sk.index] 37)).mono hb.size)
    have HO1:=hid o1
    have HBA:=hid hbA
    have hS:(⟨(36 :: (l.take k).flatMap stepT).toArray⟩:ByteArray).size≤30000:=by
      show (36 :: (l.take k).flatMap stepT).length≤30000
      rw[List.length_cons]
      omega
    clear hsk hc hX2 o1 hbA hsz hwk
    by_cases hrs:rightB sk=true
    ·rw [hrs] at HR HTA
     cases hnm:sk.named
     ·obtain ⟨hq0,h1,h2⟩:=right_index hrs hnm
      clear hq0
      obtain ⟨v,hv⟩:=Int.eq_ofNat_of_zero_le h1
      have HD:=hid (fun w=>digits13_any v (by omega) w)
      have hN:(⟨(digN v).toArray⟩:ByteArray).size≤16:=digN_len 15 v (by simp;omega)
      have HJ:=hid (show (⟨(36 :: (l.take k).flatMap stepT).toArray⟩:ByteArray)++(((⟨#[91]⟩:ByteArray)++⟨(digN v).toArray⟩)++⟨#[93]⟩)=⟨(36 :: (l.take (k+1)).flatMap stepT).toArray⟩ by
        rw[join13,HTF.out]
        unfold stepT
        rw[hnm,if_neg (by decide),hv,Int.toNat_natCast]
        rfl)
      rw[hnm,hv] at HO1
      rw[hnm,hv] at HR
      rw[hnm,hv] at HBA
      clear hrs h1 h2 HTF
      generalize (⟨(36 :: (l.take k).flatMap stepT).toArray⟩:ByteArray)=S1 at *
      generalize (⟨(digN v).toArray⟩:ByteArray)=N1 at *
      rw[hnm] at s0
      rw[hv] at s2
      clear hnm hv
      go_wp2_with (first
        | (go_at_call 37
           go_must (
             refine (HR.out _).mono ?_
             rintro e w4 ⟨rfl,hb4⟩
             have o4:=HO1.out.stay hb4 HO1.out.inside
             have d0:w4.cell? ⟨wr.heap.size,0,none⟩=some (.bool false):=o4.at 0
             have d2:w4.cell? ⟨wr.heap.size,2,none⟩=some (.int .i64 v):=o4.at 2
             have HB4:=hid (HBA.out.trans (hb4.mono HBA.out.size))
             clear hb4 o4))
        | (go_at_call 38
           go_must (
             refine (HD.out _).mono ?_
             rintro e w5 ⟨rfl,hb5⟩
             have HB5:=hid (HB4.out.trans (hb5.mono HB4.out.size))
             clear hb5)))
      go_roundw
      case rel=>exact ⟨k+1,hlt,by go_num,by rw[HTA.out,hr];rfl,congrArg Value.string HJ.out,HB5.out⟩
      case measure=>simp[intOf];omega
     ·have HD := hid (fun w=>name13_any ⟨sk.name.toArray⟩ w (by show sk.name.length≤1000;omega))
      rw[show (⟨sk.name.toArray⟩:ByteArray).data.toList=sk.name from rfl] at HD
      have hN:(⟨(nameT sk.name).toArray⟩:ByteArray).size≤10000:=by
        show (nameT sk.name).length≤10000
        have:=name_le [] sk.name.length sk.name (Nat.le_refl _)
        unfold nameT
        simp
        omega
      have HJ:=hid (show (⟨(36 :: (l.take k).flatMap stepT).toArray⟩:ByteArray)++(((⟨#[91]⟩:ByteArray)++⟨(nameT sk.name).toArray⟩)++⟨#[93]⟩)=⟨(36 :: (l.take (k+1)).flatMap stepT).toArray⟩ by
        rw[join13,HTF.out]
        unfold stepT
        rw[hnm,if_pos rfl]
        rfl)
      rw[hnm] at HO1
      rw[hnm] at HR
      rw[hnm] at HBA
      clear hrs HTF
      generalize (⟨(36 :: (l.take k).flatMap stepT).toArray⟩:ByteArray)=S1 at *
      generalize (⟨(nameT sk.name).toArray⟩:ByteArray)=N1 at *
      rw[hnm] at s0
      clear hnm hwn
      generalize (⟨sk.name.toArray⟩:ByteArray)=nm at *
      generalize sk.index=ix at *
      go_wp2_with (first
        | (go_at_call 37
           go_must (
             refine (HR.out _).mono ?_
             rintro e w4 ⟨rfl,hb4⟩
             have o4:=HO1.out.stay hb4 HO1.out.inside
             have d0:w4.cell? ⟨wr.heap.size,0,none⟩=some (.bool true):=o4.at 0
             have d1:w4.cell? ⟨wr.heap.size,1,none⟩=some (.string nm):=o4.at 1
             have HB4:=hid (HBA.out.trans (hb4.mono HBA.out.size))
             clear hb4 o4))
        | (go_at_call 24
           go_must (
             refine (HD.out _).mono ?_
             rintro e w5 ⟨rfl,hb5⟩
             have HB5:=hid (HB4.out.trans (hb5.mono HB4.out.size))
             clear hb5)))
      go_roundw
      case rel=>exact ⟨k+1,hlt,by go_num,by rw[HTA.out,hr];rfl,congrArg Value.string HJ.out,HB5.out⟩
      case measure=>simp[intOf];omega
    ·have HP0:=hid (HNO.out hrs)
     rw[Bool.eq_false_iff.2 hrs] at HR
     clear hrs HTF HTA
     go_wp2_with (go_at_call 37;refine (HR.out _).mono ?_;rintro e w4 ⟨rfl,hb4⟩;have HB4:=hid (HBA.out.trans (hb4.mono HBA.out.size));clear hb4)
     go_ret
     rw[HP0.out]
     exact ⟨rfl,HB4.out⟩
   ·have hltI:¬ (k:Int)<n:=by omega
    have ht:l.take k=l:=List.take_of_length_le (by omega)
    have HP0:=hid (show putP l=36 :: l.flatMap stepT by unfold putP;rw[if_pos (by rw[← ht];exact hr)])
    rw[ht]
    clear hr
    go_wp2
    go_ret
    rw[HP0.out]
    exact ⟨rfl,hb⟩
end
section
open Go.RowKit
structure Sel where
 kind:Int
 name:ByteArray
 index:Int
 start:Int
 en:Int
 hs:Bool
 he:Bool
 stride:Int
def blkB (c:UInt8):Bool:=decide (c.toNat=32∨c.toNat=9∨c.toNat=10∨c.toNat=13)
def runB:List UInt8→Nat
 | []=>0
 | c :: t=>if blkB c then runB t+1 else 0
def minB (l:List UInt8):Nat:=if l.head?=some 45 then 1 else 0
def intD (m:Nat) (d:List UInt8) (n:Nat):Option (Int×Nat) :=
 if n=0∨16<n then none else if 9007199254740991<valD (d.take n) 0 then none else some (if m=1 then -((valD (d.take n) 0:Nat):Int) else ((valD (d.take n) 0:Nat):Int),m+n)
def nrQ (l:List UInt8):Option (Int×Nat) :=
 if (l.drop (minB l)).head?=some 48 then (if minB l=1 then none else some (0,1)) else intD (minB l) (l.drop (minB l)) (runD (l.drop (minB l)))
def hexG4:Nat→List UInt8→Int→Option Int
 | 0,_,v=>some v
 | _+1,[],_=>none
 | k+1,c :: t,v=>match hexB c with
   | some d=>hexG4 k t (v*16+d)
   | none=>none
def hex4 (l:List UInt8):Option Int:=hexG4 4 l 0
def letE (c:UInt8):UInt8:=if c=92 then 92 else if c=47 then 47 else if c=98 then 8 else if c=102 then 12 else if c=110 then 10 else if c=114 then 13 else if c=116 then 9 else 0
def escP (v:Int) (l:List UInt8):Option (List UInt8×Nat) :=
 if l[5]?=some 92∧l[6]?=some 117 then (match hex4 (l.drop 7) with
   | none=>none
   | some w=>if w<56320∨57343<w then none else some (ofB (65536+(v-55296)*1024+w-56320),11)) else none
def escU (l t:List UInt8):Option (List UInt8×Nat):=match hex4 t with
 | none=>none
 | some v=>if 56320≤v∧v≤57343 then none else if v<55296∨57343<v then some (ofB v,5) else escP v l
def escQ (m:UInt8) (l:List UInt8):Option (List UInt8×Nat):=match l with
 | []=>none
 | c :: t=>if c=m then some ([m],1) else if letE c≠0 then some ([letE c],1) else if c≠117 then none else escU (c :: t) t
def quoGo (m:UInt8):Nat→List UInt8→List UInt8→Nat→Option (List UInt8×Nat)
 | 0,_,_,_=>none
 | _+1,[],_,_=>none
 | f+1,c :: t,acc,k=>if c=m then some (acc,k+1) else if c.toNat<32 then none else if c≠92 then quoGo m f t (acc++[c]) (k+1) else match escQ m t with
   | none=>none
   | some (b,n)=>quoGo m f (t.drop n) (acc++b) (k+1+n)
def quoQ (l:List UInt8):Option (List UInt8×Nat):=match l with
 | []=>none
 | m :: t=>quoGo m (t.length+1) t [] 1
def firstB (c:UInt8):Bool:=decide (97≤c.toNat∧c.toNat≤122)||decide (65≤c.toNat∧c.toNat≤90)||decide (c.toNat=95)||decide (128≤c.toNat)
def plnN:Bool→List UInt8→Nat
 | _,[]=>0
 | b,c :: t=>if firstB c||(b&&digB c) then plnN true t+1 else 0
def optI (l:List UInt8):Option (Option (Int×Nat)):=match nrQ l with
 | some p=>some (some p)
 | none=>if l.head?=some 45∨0<runD l then none else some none
def sqA:Sel:=⟨1,⟨#[]⟩,0,0,0,false,false,0⟩
def sqN (m:List UInt8):Sel:=⟨0,⟨m.toArray⟩,0,0,0,false,false,0⟩
def sqI (v:Int):Sel:=⟨2,⟨#[]⟩,v,0,0,false,false,0⟩
def sqS (a b:Option Int)(c:Int):Sel:=⟨3,⟨#[]⟩,0,a.getD 0,b.getD 0,a.isSome,b.isSome,c⟩
def slcC (a b:Option Int) (l:List UInt8) (k:Nat):Option (Sel×Nat) :=
 match optI (l.drop (k+1+runB (l.drop (k+1)))) with
 | none=>none
 | some none=>some (sqS a b 1,k+1)
 | some (some (v,n))=>some (sqS a b v,k+1+runB (l.drop (k+1))+n)
def slcB (a:Option Int) (l:List UInt8) (k:Nat):Option (Sel×Nat) :=
 match optI (l.drop (k+runB (l.drop k))) with
 | none=>none
 | some none=>if (l.drop (k+runB (l.drop k))).head?=some 58 then slcC a none l (k+runB (l.drop k)) else some (sqS a none 1,k)
 | some (some (v,n)) =>
   if (l.drop (k+runB (l.drop k)+n+runB (l.drop (k+runB (l.drop k)+n)))).head?=some 58 then slcC a (some v) l (k+runB (l.drop k)+n+runB (l.drop (k+runB (l.drop k)+n))) else some (sqS a (some v) 1,k+runB (l.drop k)+n)
def slcQ (l:List UInt8):Option (Sel×Nat) :=
 match optI l with
 | none=>none
 | some none=>if l.head?=some 58 then slcB none l 1 else none
 | some (some (v,n))=>if (l.drop (n+runB (l.drop n))).head?=some 58 then slcB (some v) l (n+runB (l.drop n)+1) else none
def selQ (l:List UInt8):Option (Sel×Nat) :=
 if l.head?=some 42 then some (sqA,1)
 else if l.head?=some 34∨l.head?=some 39 then (quoQ l).map fun p=>(sqN p.1,p.2)
 else match slcQ l with
   | some p=>some p
   | none=>(nrQ l).map fun p=>(sqI p.1,p.2)
def brkGo (l:List UInt8):Nat→Nat→List Sel→Option (List Sel×Nat)
 | 0,_,_=>none
 | f + 1,k,acc=>match selQ (l.drop (k+runB (l.drop k))) with
   | none=>none
   | some (x,n) =>
     if (l.drop (k+runB (l.drop k)+n+runB (l.drop (k+runB (l.drop k)+n)))).head?=some 93 then some (acc++[x],k+runB (l.drop k)+n+runB (l.drop (k+runB (l.drop k)+n))+1)
     else if (l.drop (k+runB (l.drop k)+n+runB (l.drop (k+runB (l.drop k)+n)))).head?=some 44 then brkGo l f (k+runB (l.drop k)+n+runB (l.drop (k+runB (l.drop k)+n))+1) (acc++[x])
     else none
def brkQ (l:List UInt8):Option (List Sel×Nat):=brkGo l (l.length+1) 1 []
structure Sgm where
 deep:Bool
 sels:List Sel
def dotsN (l:List UInt8):Nat:=if l.head?=some 46 then (if l.tail.head?=some 46 then 2 else 1) else 0
def sgmR (p:Nat) (r:List UInt8):Option (List Sel×Nat) :=
 if r.head?=some 91∧p≠1 then brkQ r
 else if p=0 then none
 else if r.head?=some 42 then some ([sqA],1)
 else if plnN false r=0 then none else some ([sqN (r.take (plnN false r))],plnN false r)
def sgmQ (l:List UInt8):Option (Sgm×Nat):=(sgmR (dotsN l) (l.drop (dotsN l))).map fun p=>(⟨decide (dotsN l=2),p.1⟩,dotsN l+p.2)
def queGo:Nat→List UInt8→List Sgm→Option (List Sgm)
 | 0,_,_=>none
 | f+1,l,acc=>if l=[] then some acc else match sgmQ (l.drop (runB l)) with
   | none=>none
   | some (x,n)=>queGo f (l.drop (runB l+n)) (acc++[x])
def queQ (l:List UInt8):Option (List Sgm):=if badU l ≠ -1∨l.head?≠some 36 then none else queGo (l.length+1) l.tail []
theorem runB_le:∀ l,runB l≤l.length
 | []=>Nat.le_refl _
 | c :: t=>by
   have:=runB_le t
   unfold runB
   split
   ·simpa using this
   ·simp
theorem minB_le (l:List UInt8):minB l≤1:=by unfold minB;split<;>omega
end
section
open Go.RowKit
theorem digB_is (c:UInt8):isDigitI c.toNat=digB c:=by
 unfold isDigitI digB
 by_cases h:48≤c.toNat∧c.toNat≤57
 ·rw[decide_eq_true h,decide_eq_true (by omega)]
 ·rw[decide_eq_false h,decide_eq_false (by omega)]
theorem blkB_is (c:UInt8):isBlankI c.toNat=blkB c:=by
 unfold isBlankI blkB
 by_cases h1:c.toNat=32<;>by_cases h2:c.toNat=9<;>by_cases h3:c.toNat=10<;>by_cases h4:c.toNat=13<;>simp[h1,h2,h3,h4]<;>omega
theorem tail_size (s:ByteArray)(k:Nat)(hk:k≤s.size):(s.extract k s.size).size=s.size-k:=by rw[ByteArray.size_extract];omega
theorem head_zero (s:ByteArray) (h:0<s.size):s.data.toList.head?=some s[0]:=by
 have hx:0<s.data.toList.length:=h
 have:=List.drop_eq_getElem_cons hx
 rw[List.drop_zero] at this
 rw[this]
 rfl
theorem head_none (s:ByteArray) (h:¬ 0<s.size):s.data.toList.head?=none:=by
 have:s.data.toList=[]:=List.eq_nil_of_length_eq_zero (by show s.size=0;omega)
 rw[this]
 rfl
theorem byteI_eq {c d:UInt8}(h:c=d):((c.toNat:Int)==d.toNat)=true:=by rw[h];simp
theorem byteI_ne {c d:UInt8} (h:c≠d):((c.toNat:Int)==d.toNat)=false:=by
 rw[beq_eq_false_iff_ne]
 intro e
 exact h (UInt8.toNat_inj.1 (by omega))
theorem begins_any (s:ByteArray) (c:UInt8) (w:World) (hs:s.size≤1000000) :
   Calls Tryd.prog 42 #[.string s,.int .u8 c.toNat] w fun e w'=>e=.returned (.bool (decide (s.data.toList.head?=some c)))∧w=w':=by
 by_cases h0:0<s.size
 ·have h0I:(0:Int)<s.size:=by omega
  rw[head_zero s h0]
  by_cases hc:s[0]=c
  ·rw[decide_eq_true (congrArg some hc)]
   have g:=byteI_eq hc
   go_enter Tryd.func42,Tryd.ntmps42
   go_wp2
   go_ret
   exact ⟨rfl,rfl⟩
  ·rw[decide_eq_false (fun e=>hc (Option.some.inj e))]
   have g:=byteI_ne hc
   go_enter Tryd.func42,Tryd.ntmps42
   go_wp2
   go_ret
   exact ⟨rfl,rfl⟩
 ·have h0I:¬ (0:Int)<s.size:=by omega
  rw[head_none s h0]
  go_enter Tryd.func42,Tryd.ntmps42
  go_wp2
  go_ret
  exact ⟨rfl,rfl⟩
theorem runB_drop (s:ByteArray) (k:Nat) (h:k<s.size):runB (s.data.toList.drop k)=if blkB s[k] then runB (s.data.toList.drop (k+1))+1 else 0:=by
 have hx:k<s.data.toList.length:=h
 rw[List.drop_eq_getElem_cons hx]
 rfl
theorem runD_drop (s:ByteArray) (k:Nat) (h:k<s.size):runD (s.data.toList.drop k)=if digB s[k] then runD (s.data.toList.drop (k+1))+1 else 0:=by
 have hx:k<s.data.toList.length:=h
 rw[List.drop_eq_getElem_cons hx]
 rfl
def RelBl14 (s:ByteArray) (W:World) (v:Value) (wr:World):Prop :=
 ∃ k:Nat,v=.int .i64 k∧k≤s.size∧k+runB (s.data.toList.drop k)=runB s.data.toList∧W=wr
def RelDg14 (s:ByteArray) (W:World) (v:Value) (wr:World):Prop :=
 ∃ k:Nat,v=.int .i64 k∧k≤s.size∧k+runD (s.data.toList.drop k)=runD s.data.toList∧W=wr
theorem blanks_any (s:ByteArray) (W:World) (hs:s.size≤1000000) :
   Calls Tryd.prog 43 #[.string s] W fun e w'=>e=.returned (.int .i64 (runB s.data.toList))∧W=w':=by
 go_enter Tryd.func43,Tryd.ntmps43
 go_wp2
 go_loopw [3] (fun v wr=>RelBl14 s W v wr) (fun v _=>s.size-(intOf v).toNat)
 case atStart=>exact ⟨0,rfl,Nat.zero_le _,by simp,rfl⟩
 case round =>
   obtain ⟨k,rfl,hk,hr,rfl⟩:=hrel
   by_cases hlt:k<s.size
   ·have hltI:(k:Int)<s.size:=by omega
    have HD:=hid (fun w=>rblank_any s[k].toNat w)
    rw[blkB_is] at HD
    rw[runB_drop s k hlt] at hr
    by_cases hd:blkB s[k]=true
    ·rw[hd] at HD
     rw[if_pos hd] at hr
     have HR:=hid hr
     clear hr hd
     go_wp2_with (go_at_call 59;refine (HD.out _).mono ?_;rintro e w' ⟨rfl,rfl⟩)
     go_roundw
     case rel=>exact ⟨k+1,by go_num,hlt,by have:=HR.out;omega,rfl⟩
     case measure=>simp[intOf];omega
    ·rw[Bool.eq_false_iff.2 hd] at HD
     rw[if_neg hd] at hr
     have HR:=hid hr
     clear hr hd
     go_wp2_with (go_at_call 59;refine (HD.out _).mono ?_;rintro e w' ⟨rfl,rfl⟩)
     go_ret
     exact ⟨ret_i (by have:=HR.out;omega),rfl⟩
   ·have hltI:¬ (k:Int)<s.size:=by omega
    rw[List.drop_of_length_le (by show s.size≤k;omega)] at hr
    have HR:=hid (show k=runB s.data.toList from hr)
    clear hr
    go_wp2
    go_ret
    exact ⟨ret_i (by have:=HR.out;omega),rfl⟩
theorem digits_any (s:ByteArray) (W:World) (hs:s.size≤1000000) :
   Calls Tryd.prog 99 #[.string s] W fun e w'=>e=.returned (.int .i64 (runD s.data.toList))∧W=w':=by
 go_enter Tryd.func99,Tryd.ntmps99
 go_wp2
 go_loopw [3] (fun v wr=>RelDg14 s W v wr) (fun v _=>s.size-(intOf v).toNat)
 case atStart=>exact ⟨0,rfl,Nat.zero_le _,by simp,rfl⟩
 case round =>
   obtain ⟨k,rfl,hk,hr,rfl⟩:=hrel
   by_cases hlt:k<s.size
   ·have hltI:(k:Int)<s.size:=by omega
    have HD:=hid (fun w=>rdigit_any s[k].toNat w)
    rw[digB_is] at HD
    rw[runD_drop s k hlt] at hr
    by_cases hd:digB s[k]=true
    ·rw[hd] at HD
     rw[if_pos hd] at hr
     have HR:=hid hr
     clear hr hd
     go_wp2_with (go_at_call 75;refine (HD.out _).mono ?_;rintro e w' ⟨rfl,rfl⟩)
     go_roundw
     case rel=>exact ⟨k+1,by go_num,hlt,by have:=HR.out;omega,rfl⟩
     case measure=>simp[intOf];omega
    ·rw[Bool.eq_false_iff.2 hd] at HD
     rw[if_neg hd] at hr
     have HR:=hid hr
     clear hr hd
     go_wp2_with (go_at_call 75;refine (HD.out _).mono ?_;rintro e w' ⟨rfl,rfl⟩)
     go_ret
     exact ⟨ret_i (by have:=HR.out;omega),rfl⟩
   ·have hltI:¬ (k:Int)<s.size:=by omega
    rw[List.drop_of_length_le (by show s.size≤k;omega)] at hr
    have HR:=hid (show k=runD s.data.toList from hr)
    clear hr
    go_wp2
    go_ret
    exact ⟨ret_i (by have:=HR.out;omega),rfl⟩
end
section
open Go.RowKit
theorem has_any (n:Int) (w:World) :
   Calls Tryd.prog 106 #[.int .i64 n] w fun e w'=>e=.returned (.bool (hasI n))∧w=w':=by
 have hh:n<0∨1114111<n∨(0≤n∧n<55296)∨(55296≤n∧n≤57343)∨(57343<n∧n≤1114111):=by omega
 rcases hh with h|h|⟨h,h'⟩|⟨h,h'⟩|⟨h,h'⟩
 all_goals
   go_enter Tryd.func106,Tryd.ntmps106
   go_wp2
   go_ret
   exact ⟨ret_b (by rw[Bool.eq_iff_iff];simp[hasI]<;>omega),rfl⟩
theorem of_core (n m:Int) (w:World) (hm:fixI n=m) :
   Calls Tryd.prog 104 #[.int .i64 n] w fun e w'=>e=.returned (.slice (some ⟨w.heap.size,0,none⟩) (ofI m).length (ofI m).length)∧Own w' w.heap.size 5 ((ofI m).map (Value.int .u8)).toArray∧Below w.heap.size w w':=by
 have hin:=fixI_in n
 rw[hm] at hin
 obtain ⟨g0,g9,_⟩:=hin
 have HH:=hid (has_any n)
 by_cases hb:hasI n=true
 ·obtain rfl:n=m:=by rw[← hm];unfold fixI;rw[if_pos hb]
  rw[hb] at HH
  clear hb hm
  have hh:=@ofI_is n
  rcases hh with ⟨h,e⟩|⟨h,h',e⟩|⟨h,h',e⟩|⟨h,e⟩
  all_goals
    rw[e]
    clear e
    go_enter Tryd.func104,Tryd.ntmps104
    go_wp2_with (go_at_call 106;refine (HH.out _).mono ?_;rintro e w' ⟨rfl,rfl⟩)
    go_ret
    exact ⟨rfl,Own.fresh _ _ _,(Below.refl _ _).alloc (Nat.le_refl _) _⟩
 ·obtain rfl:m=65533:=by rw[← hm];unfold fixI;rw[if_neg hb]
  rw[(by simpa using hb:hasI n=false)] at HH
  clear hb hm
  go_enter Tryd.func104,Tryd.ntmps104
  go_wp2_with (go_at_call 106;refine (HH.out _).mono ?_;rintro e w' ⟨rfl,rfl⟩)
  go_ret
  exact ⟨rfl,Own.fresh _ _ _,(Below.refl _ _).alloc (Nat.le_refl _) _⟩
end
section
open Go.RowKit
theorem runB_head {l:List UInt8} {c:UInt8} (h:l.head?=some c) (hc:blkB c=false):runB l=0:=by
 cases l with
 | nil=>cases h
 | cons a t =>
   obtain rfl:=Option.some.inj h
   exact if_neg (by rw[hc];decide)
def NumH (l:List UInt8):Prop:=∃ c,l.head?=some c∧(c=45∨digB c=true)
theorem NumH.run {l:List UInt8} (h:NumH l):runB l=0:=by
 obtain ⟨c,h1,h2⟩:=h
 refine runB_head h1 ?_
 rcases h2 with rfl|h2
 ·decide
 ·have h2:=of_decide_eq_true h2
  exact decide_eq_false (by omega)
end
section
open Go.RowKit
def MaxQ (v:Int):Prop:=-9007199254740991≤v∧v≤9007199254740991
inductive SelOK (n:Nat):Sel→Prop
 | any:SelOK n sqA
 | name (m:List UInt8):badU m = -1→m.length≤n→SelOK n (sqN m)
 | index (v:Int):MaxQ v→SelOK n (sqI v)
 | slice (a b:Option Int) (c:Int):MaxQ (a.getD 0)→MaxQ (b.getD 0)→MaxQ c→SelOK n (sqS a b c)
theorem SelOK.mono {n k:Nat} {y:Sel} (h:SelOK n y) (hk:n≤k):SelOK k y:=by
 cases h with
 | any=>exact .any
 | name m h1 h2=>exact .name m h1 (by omega)
 | index v h=>exact .index v h
 | slice a b c h1 h2 h3=>exact .slice a b c h1 h2 h3
end
section
open Go.RowKit
def numT (v:Int):List UInt8:=if v<0 then 45 :: digN (-v).toNat else digN v.toNat
def fitsB (v:Int):Bool:=decide (-9007199254740991≤v∧v≤9007199254740991)
def goodB (y:Sel):Bool :=
 if y.kind<0∨3<y.kind then false
 else if (y.kind≠0∧y.name.data.toList≠[])∨(y.kind≠2∧y.index≠0) then false
 else if y.kind≠3∧(y.start≠0∨y.en≠0∨y.stride≠0∨y.hs=true∨y.he=true) then false
 else if (y.hs=false∧y.start≠0)∨(y.he=false∧y.en≠0) then false
 else fitsB y.index&&fitsB y.start&&fitsB y.en&&fitsB y.stride&&decide (badU y.name.data.toList = -1)
def rightQ (xs:List Sgm):Bool:=xs.all fun x => !x.sels.isEmpty&&x.sels.all goodB
def selT (y:Sel):List UInt8 :=
 if goodB y=false then [] else if y.kind=0 then nameT y.name.data.toList else if y.kind=1 then [42] else if y.kind=2 then numT y.index
 else (if y.hs then numT y.start else [])++58 :: ((if y.he then numT y.en else [])++(if y.stride=1 then [] else 58 :: numT y.stride))
def selsT:List Sel→List UInt8
 | []=>[]
 | [y]=>selT y
 | y :: z :: t=>selT y++44 :: selsT (z :: t)
def sgmT (x:Sgm):List UInt8:=(if x.deep then [46,46] else [])++91 :: (selsT x.sels++[93])
def putQ (xs:List Sgm):List UInt8:=if rightQ xs then 36 :: xs.flatMap sgmT else []
theorem fitsB_max {v:Int}(h:fitsB v=true):MaxQ v:=of_decide_eq_true (p:=-9007199254740991≤v∧v≤9007199254740991) h
theorem max_fitsB {v:Int}(h:MaxQ v):fitsB v=true:=by unfold fitsB;rw[decide_eq_true_eq];exact h
theorem good_cases {y:Sel} (h:goodB y=true):y=sqA∨(∃ m,y=sqN m∧badU m = -1)∨(∃ v,y=sqI v∧MaxQ v) ∨ ∃ a b c,y=sqS a b c∧MaxQ (a.getD 0)∧MaxQ (b.getD 0)∧MaxQ c:=by
 obtain ⟨kind,name,index,start,en,hs,he,stride⟩:=y
 unfold goodB at h
 dsimp only at h
 split at h
 ·cases h
 rename_i h1
 split at h
 ·cases h
 rename_i h2
 split at h
 ·cases h
 rename_i h3
 split at h
 ·cases h
 rename_i h4
 simp only [Bool.and_eq_true,decide_eq_true_eq] at h
 obtain ⟨⟨⟨⟨f1,f2⟩,f3⟩,f4⟩,f5⟩:=h
 have nm:(⟨name.data.toList.toArray⟩:ByteArray)=name:=by simp
 by_cases k0:kind=0
 ·subst k0
  have hi:index=0:=by
    rcases Int.eq_nat_or_neg index with _|_<;>(by_cases hi:index=0;exact hi;exact absurd (.inr ⟨by decide,hi⟩) h2)
  have h3':¬ (start≠0∨en≠0∨stride≠0∨hs=true∨he=true):=fun e=>h3 ⟨by decide,e⟩
  have g1:start=0:=by by_cases e:start=0;exact e;exact absurd (.inl e) h3'
  have g2:en=0:=by by_cases e:en=0;exact e;exact absurd (.inr (.inl e)) h3'
  have g3:stride=0:=by by_cases e:stride=0;exact e;exact absurd (.inr (.inr (.inl e))) h3'
  have g4:hs=false:=by cases hs;rfl;exact absurd (.inr (.inr (.inr (.inl rfl)))) h3'
  have g5:he=false:=by cases he;rfl;exact absurd (.inr (.inr (.inr (.inr rfl)))) h3'
  subst hi g1 g2 g3 g4 g5
  exact .inr (.inl ⟨name.data.toList,by unfold sqN;rw[nm],f5⟩)
 have hn:name=⟨#[]⟩:=by
   have:name.data.toList=[]:=by by_cases e:name.data.toList=[];exact e;exact absurd (.inl ⟨k0,e⟩) h2
   rw[← nm,this]
 subst hn
 by_cases k2:kind=2
 ·subst k2
  have h3':¬ (start≠0∨en≠0∨stride≠0∨hs=true∨he=true):=fun e=>h3 ⟨by decide,e⟩
  have g1:start=0:=by by_cases e:start=0;exact e;exact absurd (.inl e) h3'
  have g2:en=0:=by by_cases e:en=0;exact e;exact absurd (.inr (.inl e)) h3'
  have g3:stride=0:=by by_cases e:stride=0;exact e;exact absurd (.inr (.inr (.inl e))) h3'
  have g4:hs=false:=by cases hs;rfl;exact absurd (.inr (.inr (.inr (.inl rfl)))) h3'
  have g5:he=false:=by cases he;rfl;exact absurd (.inr (.inr (.inr (.inr rfl)))) h3'
  subst g1 g2 g3 g4 g5
  exact .inr (.inr (.inl ⟨index,rfl,fitsB_max f1⟩))
 have hi:index=0:=by by_cases e:index=0;exact e;exact absurd (.inr ⟨k2,e⟩) h2
 subst hi
 by_cases k3:kind=3
 ·subst k3
  refine .inr (.inr (.inr ⟨if hs then some start else none,if he then some en else none,stride,?_,?_,?_,fitsB_max f4⟩))
  ·cases hs<;>cases he
   ·have g1:start=0:=by by_cases e:start=0;exact e;exact absurd (.inl ⟨rfl,e⟩) h4
    have g2:en=0:=by by_cases e:en=0;exact e;exact absurd (.inr ⟨rfl,e⟩) h4
    subst g1 g2;rfl
   ·have g1:start=0:=by by_cases e:start=0;exact e;exact absurd (.inl ⟨rfl,e⟩) h4
    subst g1;rfl
   ·have g2:en=0:=by by_cases e:en=0;exact e;exact absurd (.inr ⟨rfl,e⟩) h4
    subst g2;rfl
   ·rfl
  ·cases hs
   ·show MaxQ 0;unfold MaxQ;omega
   ·exact fitsB_max f2
  ·cases he
   ·show MaxQ 0;unfold MaxQ;omega
   ·exact fitsB_max f3
 have k1:kind=1:=by omega
 subst k1
 have h3':¬ (start≠0∨en≠0∨stride≠0∨hs=true∨he=true):=fun e=>h3 ⟨by decide,e⟩
 have g1:start=0:=by by_cases e:start=0;exact e;exact absurd (.inl e) h3'
 have g2:en=0:=by by_cases e:en=0;exact e;exact absurd (.inr (.inl e)) h3'
 have g3:stride=0:=by by_cases e:stride=0;exact e;exact absurd (.inr (.inr (.inl e))) h3'
 have g4:hs=false:=by cases hs;rfl;exact absurd (.inr (.inr (.inr (.inl rfl)))) h3'
 have g5:he=false:=by cases he;rfl;exact absurd (.inr (.inr (.inr (.inr rfl)))) h3'
 subst g1 g2 g3 g4 g5
 exact .inl rfl
theorem fits_zero:fitsB 0=true:=by decide
theorem good_any:goodB sqA=true:=by decide +kernel
theorem good_name {m:List UInt8} (h:badU m = -1):goodB (sqN m)=true:=by
 unfold goodB sqN
 dsimp only
 rw[if_neg (by omega),if_neg (by simp),if_neg (by simp),if_neg (by simp)]
 simp[fits_zero,h]
theorem good_index {v:Int} (h:MaxQ v):goodB (sqI v)=true:=by
 unfold goodB sqI
 dsimp only
 rw[if_neg (by omega),if_neg (by simp),if_neg (by simp),if_neg (by simp)]
 simp[fits_zero,max_fitsB h,show badU [] = -1 from rfl]
theorem good_slice {a b:Option Int} {c:Int} (ha:MaxQ (a.getD 0)) (hb:MaxQ (b.getD 0)) (hc:MaxQ c):goodB (sqS a b c)=true:=by
 unfold goodB sqS
 dsimp only
 rw[if_neg (by omega),if_neg (by simp),if_neg (by simp),if_neg (by cases a<;>cases b<;>simp)]
 simp[fits_zero,max_fitsB ha,max_fitsB hb,max_fitsB hc,show badU [] = -1 from rfl]
theorem digN_16 {v:Nat}(h:v≤9007199254740991):(digN v).length≤16:=digN_len 15 v (by omega)
def NoNum (l:List UInt8):Prop:=∀ c,l.head?=some c→c≠45∧digB c=false
theorem NoNum.run {l:List UInt8} (h:NoNum l):runD l=0:=by
 cases l with
 | nil=>rfl
 | cons c t=>exact if_neg (by rw[(h c rfl).2];decide)
def optT:Option Int→List UInt8
 | some v=>numT v
 | none=>[]
def tailC (c:Int)(rest:List UInt8):List UInt8:=(if c=1 then [] else 58 :: numT c)++rest
theorem selT_slice (a b:Option Int) (c:Int) (ha:MaxQ (a.getD 0)) (hb:MaxQ (b.getD 0)) (hc:MaxQ c) (rest:List UInt8):selT (sqS a b c)++rest=optT a++58 :: (optT b++tailC c rest):=by
 unfold selT
 rw[good_slice ha hb hc,if_neg (by decide)]
 cases a<;>cases b<;>simp[sqS,tailC,optT]<;>rfl
end
section
open Go.RowKit
theorem fits15_any (n:Int) (w:World) :
   Calls Tryd.prog 50 #[.int .i64 n] w fun e w'=>e=.returned (.bool (fitsB n))∧w=w':=by
 unfold fitsB
 by_cases h1:n≤9007199254740991
 ·by_cases h2 : -9007199254740991≤n
  ·rw[decide_eq_true ⟨h2,h1⟩]
   go_enter Tryd.func50,Tryd.ntmps50
   go_wp2
   go_ret
   exact ⟨ret_b (by simp<;>omega),rfl⟩
  ·rw[decide_eq_false (fun h=>h2 h.1)]
   go_enter Tryd.func50,Tryd.ntmps50
   go_wp2
   go_ret
   exact ⟨ret_b (by simp<;>omega),rfl⟩
 ·rw[decide_eq_false (fun h=>h1 h.2)]
  go_enter Tryd.func50,Tryd.ntmps50
  go_wp2
  go_ret
  exact ⟨ret_b (by simp),rfl⟩
theorem num15_nat:∀ (n:Nat),n≤9007199254740991 → ∀ (W:World),Calls Tryd.prog 25 #[.int .i64 n] W fun e w'=>e=.returned (.string ⟨(digN n).toArray⟩)∧Below W.heap.size W w':=by
 intro n
 induction n using Nat.strongRecOn with
 | ind n ih =>
   intro hn W
   have h00:¬ (n:Int)<0:=by omega
   by_cases h:n<10
   ·rw [digN_one n h]
    have hI:(n:Int)<10:=by omega
    have e48:((48+n:Nat):Int)=48+(n:Int):=by omega
    have hcv:(convert 52 9 (.slice (some ⟨W.heap.size,0,none⟩) 1 1)).run Tryd.prog (W.alloc (.cells #[.int .u8 (48+(n:Int))] 5))=.ok (.string ⟨#[UInt8.ofNat (48+n)]⟩) (W.alloc (.cells #[.int .u8 (48+(n:Int))] 5)):=by
      rw[← e48]
      exact Buf.conv (Buf.made W #[.int .u8 ((48+n:Nat):Int)] [UInt8.ofNat (48+n)] (by unfold byteCells;simp only [List.map_cons,List.map_nil];rw[dig_toNat n h]) (by simp[maxLen]) (Nat.le_refl _))
    have hwr:IntKind.u8.wrap (48+(n:Int))=48+(n:Int):=by rw[IntKind.wrap_u8];omega
    generalize (⟨#[UInt8.ofNat (48+n)]⟩:ByteArray)=db at hcv ⊢
    go_enter Tryd.func25,Tryd.ntmps25
    go_wp2
    go_ret
    exact ⟨rfl,below1 _ _⟩
   ·have K1:=hid (fun w=>ih (n/10) (by omega) (by omega) w)
    have K2:=hid (fun w=>ih (n%10) (by omega) (by omega) w)
    have HJ:=hid (digN_join n)
    rw[if_neg h] at HJ
    have hI:¬ (n:Int)<10:=by omega
    rw[show ((n/10:Nat):Int)=(n:Int)/10 by omega] at K1
    rw[show ((n%10:Nat):Int)=(n:Int)%10 by omega] at K2
    rw[HJ.out]
    clear HJ
    have z1:(⟨(digN (n/10)).toArray⟩:ByteArray).size≤16:=digN_len 15 (n/10) (by simp;omega)
    have z2:(⟨(digN (n%10)).toArray⟩:ByteArray).size≤16:=digN_len 15 (n%10) (by simp;omega)
    generalize (⟨(digN (n/10)).toArray⟩:ByteArray)=d1 at *
    generalize (⟨(digN (n%10)).toArray⟩:ByteArray)=d2 at *
    go_enter Tryd.func25,Tryd.ntmps25
    go_wp2_with (first
      | (go_at_call 25;with_reducible refine (K1.out _).mono ?_;rintro e w1 ⟨rfl,hb1⟩)
      | (go_at_call 25;with_reducible refine (K2.out _).mono ?_;rintro e w2 ⟨rfl,hb2⟩))
    go_ret
    exact ⟨rfl,hb1.trans (hb2.mono hb1.size)⟩
theorem num15_any (v:Int) (hv:MaxQ v) (W:World):Calls Tryd.prog 25 #[.int .i64 v] W fun e w'=>e=.returned (.string ⟨(numT v).toArray⟩)∧Below W.heap.size W w':=by
 unfold MaxQ at hv
 unfold numT
 by_cases h0:v<0
 ·rw[if_pos h0]
  obtain ⟨k,hk⟩:∃ k:Nat,-v=k:=⟨(-v).toNat,by omega⟩
  have K1:=hid (fun w=>num15_nat k (by omega) w)
  rw[show (-v).toNat=k by omega]
  have z1:(⟨(digN k).toArray⟩:ByteArray).size≤16:=digN_len 15 k (by simp;omega)
  have HJ:=hid (show (⟨(45 :: digN k).toArray⟩:ByteArray)=(⟨#[45]⟩:ByteArray)++(⟨(digN k).toArray⟩:ByteArray) by apply ByteArray.ext;simp)
  rw[HJ.out]
  generalize (⟨(digN k).toArray⟩:ByteArray)=d1 at *
  have hw:IntKind.i64.wrap (-v)=k:=by rw[hk,IntKind.wrap_i64];omega
  go_enter Tryd.func25,Tryd.ntmps25
  go_wp2_with (go_at_call 25;with_reducible refine (K1.out _).mono ?_;rintro e w1 ⟨rfl,hb1⟩)
  go_ret
  exact ⟨rfl,hb1⟩
 ·rw[if_neg h0]
  obtain ⟨k,rfl⟩:=Int.eq_ofNat_of_zero_le (show 0≤v by omega)
  rw[Int.toNat_natCast]
  exact num15_nat k (by omega) W
end
section
open Go.RowKit
theorem ba_ne {s:ByteArray} (h:s.data.toList≠[]):(s.toList==(⟨#[]⟩:ByteArray).toList)=false:=by
 rw[beq_eq_false_iff_ne,ByteArray.toList_eq,ByteArray.toList_eq]
 exact h
theorem ba_ne2 {s:ByteArray}(h:s.data.toList≠[]):(s.toList != (⟨#[]⟩:ByteArray).toList)=true:=by unfold bne;rw[ba_ne h];rfl
theorem ba_ne3 {s:ByteArray} (h:s.data.toList≠[]):s.toList.isEmpty=false:=by
 rw[ByteArray.toList_eq]
 cases hc:s.data.toList with
 | nil=>exact absurd hc h
 | cons a b=>rfl
theorem int_ne {v c:Int}(h:v≠c):(v != c)=true:=bne_iff_ne.2 h
theorem int_eqf {v c:Int}(h:v≠c):(v==c)=false:=beq_eq_false_iff_ne.2 h
def SelG (k:Int) (nm:ByteArray) (ix st en:Int) (hs he:Bool) (sd:Int):Prop:=∀ (w:World),nm.size≤maxLen →
   Calls Tryd.prog 23 #[.agg #[.int .i64 k,.string nm,.int .i64 ix,.int .i64 st,.int .i64 en,.bool hs,.bool he,.int .i64 sd]] w fun e w'=>e=.returned (.bool (goodB ⟨k,nm,ix,st,en,hs,he,sd⟩))∧Below w.heap.size w w'
theorem good15_1 (k:Int) (nm:ByteArray) (ix st en:Int) (hs he:Bool) (sd:Int) (h:k<0):SelG k nm ix st en hs he sd:=by
 intro w hz
 have HG:goodB ⟨k,nm,ix,st,en,hs,he,sd⟩=false:=by
   unfold goodB
   dsimp only
   simp[h]
 rw[HG]
 clear HG
 have q:k<0:=h
 clear h
 go_enter Tryd.func23,Tryd.ntmps23
 go_wp2
 go_ret
 exact ⟨ret_b (by simp),below1 _ _⟩
theorem good15_2 (k:Int) (nm:ByteArray) (ix st en:Int) (hs he:Bool) (sd:Int) (h:3<k):SelG k nm ix st en hs he sd:=by
 intro w hz
 have HG:goodB ⟨k,nm,ix,st,en,hs,he,sd⟩=false:=by
   unfold goodB
   dsimp only
   simp[h]
 rw[HG]
 clear HG
 have q:k>3:=h
 have q2:¬ k<0:=by omega
 clear h
 go_enter Tryd.func23,Tryd.ntmps23
 go_wp2
 go_ret
 exact ⟨ret_b (by simp),below1 _ _⟩
theorem good15_3 (nm:ByteArray) (ix st en:Int) (hs he:Bool) (sd:Int) (h:ix≠0):SelG 0 nm ix st en hs he sd:=by
 intro w hz
 have HG:goodB ⟨0,nm,ix,st,en,hs,he,sd⟩=false:=by
   unfold goodB
   dsimp only
   simp[h]
 rw[HG]
 clear HG
 have nix:=int_ne h
 have mix:=int_eqf h
 clear h
 go_enter Tryd.func23,Tryd.ntmps23
 go_wp2
 go_ret
 exact ⟨ret_b (by simp),below1 _ _⟩
theorem good15_4 (nm:ByteArray) (st en:Int) (hs he:Bool) (sd:Int) (h:st≠0):SelG 0 nm 0 st en hs he sd:=by
 intro w hz
 have HG:goodB ⟨0,nm,0,st,en,hs,he,sd⟩=false:=by
   unfold goodB
   dsimp only
   simp[h]
 rw[HG]
 clear HG
 have nst:=int_ne h
 have mst:=int_eqf h
 clear h
 go_enter Tryd.func23,Tryd.ntmps23
 go_wp2
 go_ret
 exact ⟨ret_b (by simp),below1 _ _⟩
theorem good15_5 (nm:ByteArray) (en:Int) (hs he:Bool) (sd:Int) (h:en≠0):SelG 0 nm 0 0 en hs he sd:=by
 intro w hz
 have HG:goodB ⟨0,nm,0,0,en,hs,he,sd⟩=false:=by
   unfold goodB
   dsimp only
   simp[h]
 rw[HG]
 clear HG
 have nen:=int_ne h
 have men:=int_eqf h
 clear h
 go_enter Tryd.func23,Tryd.ntmps23
 go_wp2
 go_ret
 exact ⟨ret_b (by simp),below1 _ _⟩
theorem good15_6 (nm:ByteArray) (hs he:Bool) (sd:Int) (h:sd≠0):SelG 0 nm 0 0 0 hs he sd:=by
 intro w hz
 have HG:goodB ⟨0,nm,0,0,0,hs,he,sd⟩=false:=by
   unfold goodB
   dsimp only
   simp[h]
 rw[HG]
 clear HG
 have nsd:=int_ne h
 have msd:=int_eqf h
 clear h
 go_enter Tryd.func23,Tryd.ntmps23
 go_wp2
 go_ret
 exact ⟨ret_b (by simp),below1 _ _⟩
theorem good15_7 (nm:ByteArray) (he:Bool):SelG 0 nm 0 0 0 true he 0:=by
 intro w hz
 have HG:goodB ⟨0,nm,0,0,0,true,he,0⟩=false:=by
   unfold goodB
   dsimp only
   simp[]
 rw[HG]
 clear HG
 go_enter Tryd.func23,Tryd.ntmps23
 go_wp2
 go_ret
 exact ⟨ret_b (by simp),below1 _ _⟩
theorem good15_8 (nm:ByteArray)  : SelG 0 nm 0 0 0 false true 0:=by
 intro w hz
 have HG:goodB ⟨0,nm,0,0,0,false,true,0⟩=false:=by
   unfold goodB
   dsimp only
   simp[]
 rw[HG]
 clear HG
 go_enter Tryd.func23,Tryd.ntmps23
 go_wp2
 go_ret
 exact ⟨ret_b (by simp),below1 _ _⟩
theorem good15_name (nm:ByteArray):SelG 0 nm 0 0 0 false false 0:=by
 intro w hz
 have HG:goodB ⟨0,nm,0,0,0,false,false,0⟩=decide (badU nm.data.toList = -1):=by
   unfold goodB
   dsimp only
   simp[fits_zero]
 rw[HG]
 clear HG
 have F0:=hid (fun w=>fits15_any 0 w)
 rw[fits_zero] at F0
 have KB:=hid (fun w=>rbad_any nm w hz)
 generalize badU nm.data.toList=bu at *
 go_enter Tryd.func23,Tryd.ntmps23
 go_wp2_with (first
   | (go_at_call 50;with_reducible refine (F0.out _).mono ?_;rintro e w' ⟨rfl,rfl⟩)
   | (go_at_call 41;refine (KB.out _).mono ?_;rintro e w' ⟨rfl,hb⟩;have HW:=hid ((below1 w _).trans (hb.mono (by simp)));clear hb))
 go_ret
 exact ⟨ret_b (by by_cases h:bu = -1<;>simp[h]),HW.out⟩
theorem good15_9 (nm:ByteArray) (ix st en:Int) (hs he:Bool) (sd:Int) (h:nm.data.toList≠[]):SelG 1 nm ix st en hs he sd:=by
 intro w hz
 have HG:goodB ⟨1,nm,ix,st,en,hs,he,sd⟩=false:=by
   unfold goodB
   dsimp only
   simp[h]
 rw[HG]
 clear HG
 have nn:=ba_ne2 h
 have nm':=ba_ne h
 have n3:=ba_ne3 h
 clear h
 go_enter Tryd.func23,Tryd.ntmps23
 go_wp2
 go_ret
 exact ⟨ret_b (by simp),below1 _ _⟩
theorem good15_10 (ix st en:Int) (hs he:Bool) (sd:Int) (h:ix≠0):SelG 1 ⟨#[]⟩ ix st en hs he sd:=by
 intro w hz
 have HG:goodB ⟨1,⟨#[]⟩,ix,st,en,hs,he,sd⟩=false:=by
   unfold goodB
   dsimp only
   simp[h]
 rw[HG]
 clear HG
 have nix:=int_ne h
 have mix:=int_eqf h
 clear h
 go_enter Tryd.func23,Tryd.ntmps23
 go_wp2
 go_ret
 exact ⟨ret_b (by simp),below1 _ _⟩
theorem good15_11 (st en:Int) (hs he:Bool) (sd:Int) (h:st≠0):SelG 1 ⟨#[]⟩ 0 st en hs he sd:=by
 intro w hz
 have HG:goodB ⟨1,⟨#[]⟩,0,st,en,hs,he,sd⟩=false:=by
   unfold goodB
   dsimp only
   simp[h]
 rw[HG]
 clear HG
 have nst:=int_ne h
 have mst:=int_eqf h
 clear h
 go_enter Tryd.func23,Tryd.ntmps23
 go_wp2
 go_ret
 exact ⟨ret_b (by simp),below1 _ _⟩
theorem good15_12 (en:Int) (hs he:Bool) (sd:Int) (h:en≠0):SelG 1 ⟨#[]⟩ 0 0 en hs he sd:=by
 intro w hz
 have HG:goodB ⟨1,⟨#[]⟩,0,0,en,hs,he,sd⟩=false:=by
   unfold goodB
   dsimp only
   simp[h]
 rw[HG]
 clear HG
 have nen:=int_ne h
 have men:=int_eqf h
 clear h
 go_enter Tryd.func23,Tryd.ntmps23
 go_wp2
 go_ret
 exact ⟨ret_b (by simp),below1 _ _⟩
theorem good15_13 (hs he:Bool) (sd:Int) (h:sd≠0):SelG 1 ⟨#[]⟩ 0 0 0 hs he sd:=by
 intro w hz
 have HG:goodB ⟨1,⟨#[]⟩,0,0,0,hs,he,sd⟩=false:=by
   unfold goodB
   dsimp only
   simp[h]
 rw[HG]
 clear HG
 have nsd:=int_ne h
 have msd:=int_eqf h
 clear h
 go_enter Tryd.func23,Tryd.ntmps23
 go_wp2
 go_ret
 exact ⟨ret_b (by simp),below1 _ _⟩
theorem good15_14 (he:Bool):SelG 1 ⟨#[]⟩ 0 0 0 true he 0:=by
 intro w hz
 have HG:goodB ⟨1,⟨#[]⟩,0,0,0,true,he,0⟩=false:=by
   unfold goodB
   dsimp only
   simp[]
 rw[HG]
 clear HG
 go_enter Tryd.func23,Tryd.ntmps23
 go_wp2
 go_ret
 exact ⟨ret_b (by simp),below1 _ _⟩
theorem good15_15  : SelG 1 ⟨#[]⟩ 0 0 0 false true 0:=by
 intro w hz
 have HG:goodB ⟨1,⟨#[]⟩,0,0,0,false,true,0⟩=false:=by
   unfold goodB
   dsimp only
   simp[]
 rw[HG]
 clear HG
 go_enter Tryd.func23,Tryd.ntmps23
 go_wp2
 go_ret
 exact ⟨ret_b (by simp),below1 _ _⟩
theorem good15_16  : SelG 1 ⟨#[]⟩ 0 0 0 false false 0:=by
 intro w hz
 have HG:goodB ⟨1,⟨#[]⟩,0,0,0,false,false,0⟩=true:=by
   unfold goodB
   dsimp only
   simp[fits_zero,(show badU [] = -1 from rfl)]
 rw[HG]
 clear HG
 have F0:=hid (fun w=>fits15_any 0 w)
 rw[fits_zero] at F0
 have KB:=hid (fun w=>rbad_any ⟨#[]⟩ w (by decide))
 rw[show badU (⟨#[]⟩:ByteArray).data.toList = -1 from rfl] at KB
 go_enter Tryd.func23,Tryd.ntmps23
 go_wp2_with (first
   | (go_at_call 50;with_reducible refine (F0.out _).mono ?_;rintro e w' ⟨rfl,rfl⟩)
   | (go_at_call 41;refine (KB.out _).mono ?_;rintro e w' ⟨rfl,hb⟩;have HW:=hid ((below1 w _).trans (hb.mono (by simp)));clear hb))
 go_ret
 exact ⟨ret_b (by simp),HW.out⟩
theorem good15_17 (nm:ByteArray) (ix st en:Int) (hs he:Bool) (sd:Int) (h:nm.data.toList≠[]):SelG 2 nm ix st en hs he sd:=by
 intro w hz
 have HG:goodB ⟨2,nm,ix,st,en,hs,he,sd⟩=false:=by
   unfold goodB
   dsimp only
   simp[h]
 rw[HG]
 clear HG
 have nn:=ba_ne2 h
 have nm':=ba_ne h
 have n3:=ba_ne3 h
 clear h
 go_enter Tryd.func23,Tryd.ntmps23
 go_wp2
 go_ret
 exact ⟨ret_b (by simp),below1 _ _⟩
theorem good15_18 (ix:Int) (st en:Int) (hs he:Bool) (sd:Int) (h:st≠0):SelG 2 ⟨#[]⟩ ix st en hs he sd:=by
 intro w hz
 have HG:goodB ⟨2,⟨#[]⟩,ix,st,en,hs,he,sd⟩=false:=by
   unfold goodB
   dsimp only
   simp[h]
 rw[HG]
 clear HG
 have nst:=int_ne h
 have mst:=int_eqf h
 clear h
 go_enter Tryd.func23,Tryd.ntmps23
 go_wp2
 go_ret
 exact ⟨ret_b (by simp),below1 _ _⟩
theorem good15_19 (ix:Int) (en:Int) (hs he:Bool) (sd:Int) (h:en≠0):SelG 2 ⟨#[]⟩ ix 0 en hs he sd:=by
 intro w hz
 have HG:goodB ⟨2,⟨#[]⟩,ix,0,en,hs,he,sd⟩=false:=by
   unfold goodB
   dsimp only
   simp[h]
 rw[HG]
 clear HG
 have nen:=int_ne h
 have men:=int_eqf h
 clear h
 go_enter Tryd.func23,Tryd.ntmps23
 go_wp2
 go_ret
 exact ⟨ret_b (by simp),below1 _ _⟩
theorem good15_20 (ix:Int) (hs he:Bool) (sd:Int) (h:sd≠0):SelG 2 ⟨#[]⟩ ix 0 0 hs he sd:=by
 intro w hz
 have HG:goodB ⟨2,⟨#[]⟩,ix,0,0,hs,he,sd⟩=false:=by
   unfold goodB
   dsimp only
   simp[h]
 rw[HG]
 clear HG
 have nsd:=int_ne h
 have msd:=int_eqf h
 clear h
 go_enter Tryd.func23,Tryd.ntmps23
 go_wp2
 go_ret
 exact ⟨ret_b (by simp),below1 _ _⟩
theorem good15_21 (ix:Int) (he:Bool):SelG 2 ⟨#[]⟩ ix 0 0 true he 0:=by
 intro w hz
 have HG:goodB ⟨2,⟨#[]⟩,ix,0,0,true,he,0⟩=false:=by
   unfold goodB
   dsimp only
   simp[]
 rw[HG]
 clear HG
 go_enter Tryd.func23,Tryd.ntmps23
 go_wp2
 go_ret
 exact ⟨ret_b (by simp),below1 _ _⟩
theorem good15_22 (ix:Int)  : SelG 2 ⟨#[]⟩ ix 0 0 false true 0:=by
 intro w hz
 have HG:goodB ⟨2,⟨#[]⟩,ix,0,0,false,true,0⟩=false:=by
   unfold goodB
   dsimp only
   simp[]
 rw[HG]
 clear HG
 go_enter Tryd.func23,Tryd.ntmps23
 go_wp2
 go_ret
 exact ⟨ret_b (by simp),below1 _ _⟩
theorem good15_23 (ix:Int) (h:fitsB ix=false):SelG 2 ⟨#[]⟩ ix 0 0 false false 0:=by
 intro w hz
 have HG:goodB ⟨2,⟨#[]⟩,ix,0,0,false,false,0⟩=false:=by
   unfold goodB
   dsimp only
   simp[h]
 rw[HG]
 clear HG
 have Fix:=hid (fun w=>fits15_any ix w)
 rw[h] at Fix
 clear h
 go_enter Tryd.func23,Tryd.ntmps23
 go_wp2_with (first
   | (go_at_call 50;with_reducible refine (Fix.out _).mono ?_;rintro e w' ⟨rfl,rfl⟩))
 go_ret
 exact ⟨ret_b (by simp),below1 _ _⟩
theorem good15_24 (ix:Int) (h:fitsB ix=true):SelG 2 ⟨#[]⟩ ix 0 0 false false 0:=by
 intro w hz
 have HG:goodB ⟨2,⟨#[]⟩,ix,0,0,false,false,0⟩=true:=by
   unfold goodB
   dsimp only
   simp[h,fits_zero,(show badU [] = -1 from rfl)]
 rw[HG]
 clear HG
 have Fix:=hid (fun w=>fits15_any ix w)
 rw[h] at Fix
 have F0:=hid (fun w=>fits15_any 0 w)
 rw[fits_zero] at F0
 have KB:=hid (fun w=>rbad_any ⟨#[]⟩ w (by decide))
 rw[show badU (⟨#[]⟩:ByteArray).data.toList = -1 from rfl] at KB
 clear h
 go_enter Tryd.func23,Tryd.ntmps23
 go_wp2_with (first
   | (go_at_call 50;with_reducible refine (Fix.out _).mono ?_;rintro e w' ⟨rfl,rfl⟩)
   | (go_at_call 50;with_reducible refine (F0.out _).mono ?_;rintro e w' ⟨rfl,rfl⟩)
   | (go_at_call 41;refine (KB.out _).mono ?_;rintro e w' ⟨rfl,hb⟩;have HW:=hid ((below1 w _).trans (hb.mono (by simp)));clear hb))
 go_ret
 exact ⟨ret_b (by simp),HW.out⟩
theorem good15_25 (nm:ByteArray) (ix st en:Int) (hs he:Bool) (sd:Int) (h:nm.data.toList≠[]):SelG 3 nm ix st en hs he sd:=by
 intro w hz
 have HG:goodB ⟨3,nm,ix,st,en,hs,he,sd⟩=false:=by
   unfold goodB
   dsimp only
   simp[h]
 rw[HG]
 clear HG
 have nn:=ba_ne2 h
 have nm':=ba_ne h
 have n3:=ba_ne3 h
 clear h
 go_enter Tryd.func23,Tryd.ntmps23
 go_wp2
 go_ret
 exact ⟨ret_b (by simp),below1 _ _⟩
theorem good15_26 (ix st en:Int) (hs he:Bool) (sd:Int) (h:ix≠0):SelG 3 ⟨#[]⟩ ix st en hs he sd:=by
 intro w hz
 have HG:goodB ⟨3,⟨#[]⟩,ix,st,en,hs,he,sd⟩=false:=by
   unfold goodB
   dsimp only
   simp[h]
 rw[HG]
 clear HG
 have nix:=int_ne h
 have mix:=int_eqf h
 clear h
 go_enter Tryd.func23,Tryd.ntmps23
 go_wp2
 go_ret
 exact ⟨ret_b (by simp),below1 _ _⟩
theorem good15_27 (st en:Int) (he:Bool) (sd:Int) (h:st≠0):SelG 3 ⟨#[]⟩ 0 st en false he sd:=by
 intro w hz
 have HG:goodB ⟨3,⟨#[]⟩,0,st,en,false,he,sd⟩=false:=by
   unfold goodB
   dsimp only
   simp[h]
 rw[HG]
 clear HG
 have nst:=int_ne h
 have mst:=int_eqf h
 clear h
 go_enter Tryd.func23,Tryd.ntmps23
 go_wp2
 go_ret
 exact ⟨ret_b (by simp),below1 _ _⟩
theorem good15_28 (en:Int) (sd:Int) (h:en≠0):SelG 3 ⟨#[]⟩ 0 0 en false false sd:=by
 intro w hz
 have HG:goodB ⟨3,⟨#[]⟩,0,0,en,false,false,sd⟩=false:=by
   unfold goodB
   dsimp only
   simp[h]
 rw[HG]
 clear HG
 have nen:=int_ne h
 have men:=int_eqf h
 clear h
 go_enter Tryd.func23,Tryd.ntmps23
 go_wp2
 go_ret
 exact ⟨ret_b (by simp),below1 _ _⟩
theorem good15_29 (sd:Int) (h:fitsB sd=false):SelG 3 ⟨#[]⟩ 0 0 0 false false sd:=by
 intro w hz
 have HG:goodB ⟨3,⟨#[]⟩,0,0,0,false,false,sd⟩=false:=by
   unfold goodB
   dsimp only
   simp[fits_zero,h]
 rw[HG]
 clear HG
 have F0:=hid (fun w=>fits15_any 0 w)
 rw[fits_zero] at F0
 have Fsd:=hid (fun w=>fits15_any sd w)
 rw[h] at Fsd
 clear h
 go_enter Tryd.func23,Tryd.ntmps23
 go_wp2_with (first
   | (go_at_call 50;with_reducible refine (Fsd.out _).mono ?_;rintro e w' ⟨rfl,rfl⟩)
   | (go_at_call 50;with_reducible refine (F0.out _).mono ?_;rintro e w' ⟨rfl,rfl⟩))
 go_ret
 exact ⟨ret_b (by simp),below1 _ _⟩
theorem good15_30 (sd:Int) (h:fitsB sd=true):SelG 3 ⟨#[]⟩ 0 0 0 false false sd:=by
 intro w hz
 have HG:goodB ⟨3,⟨#[]⟩,0,0,0,false,false,sd⟩=true:=by
   unfold goodB
   dsimp only
   simp[fits_zero,h,(show badU [] = -1 from rfl)]
 rw[HG]
 clear HG
 have F0:=hid (fun w=>fits15_any 0 w)
 rw[fits_zero] at F0
 have Fsd:=hid (fun w=>fits15_any sd w)
 rw[h] at Fsd
 have KB:=hid (fun w=>rbad_any ⟨#[]⟩ w (by decide))
 rw[show badU (⟨#[]⟩:ByteArray).data.toList = -1 from rfl] at KB
 clear h
 go_enter Tryd.func23,Tryd.ntmps23
 go_wp2_with (first
   | (go_at_call 50;with_reducible refine (Fsd.out _).mono ?_;rintro e w' ⟨rfl,rfl⟩)
   | (go_at_call 50;with_reducible refine (F0.out _).mono ?_;rintro e w' ⟨rfl,rfl⟩)
   | (go_at_call 41;refine (KB.out _).mono ?_;rintro e w' ⟨rfl,hb⟩;have HW:=hid ((below1 w _).trans (hb.mono (by simp)));clear hb))
 go_ret
 exact ⟨ret_b (by simp),HW.out⟩
theorem good15_31 (en:Int) (sd:Int) (h:fitsB en=false):SelG 3 ⟨#[]⟩ 0 0 en false true sd:=by
 intro w hz
 have HG:goodB ⟨3,⟨#[]⟩,0,0,en,false,true,sd⟩=false:=by
   unfold goodB
   dsimp only
   simp[fits_zero,h]
 rw[HG]
 clear HG
 have F0:=hid (fun w=>fits15_any 0 w)
 rw[fits_zero] at F0
 have Fen:=hid (fun w=>fits15_any en w)
 rw[h] at Fen
 clear h
 go_enter Tryd.func23,Tryd.ntmps23
 go_wp2_with (first
   | (go_at_call 50;with_reducible refine (Fen.out _).mono ?_;rintro e w' ⟨rfl,rfl⟩)
   | (go_at_call 50;with_reducible refine (F0.out _).mono ?_;rintro e w' ⟨rfl,rfl⟩))
 go_ret
 exact ⟨ret_b (by simp),below1 _ _⟩
theorem good15_32 (en:Int) (sd:Int) (h2:fitsB en=true) (h:fitsB sd=false):SelG 3 ⟨#[]⟩ 0 0 en false true sd:=by
 intro w hz
 have HG:goodB ⟨3,⟨#[]⟩,0,0,en,false,true,sd⟩=false:=by
   unfold goodB
   dsimp only
   simp[fits_zero,h2,h]
 rw[HG]
 clear HG
 have F0:=hid (fun w=>fits15_any 0 w)
 rw[fits_zero] at F0
 have Fen:=hid (fun w=>fits15_any en w)
 rw[h2] at Fen
 have Fsd:=hid (fun w=>fits15_any sd w)
 rw[h] at Fsd
 clear h2 h
 go_enter Tryd.func23,Tryd.ntmps23
 go_wp2_with (first
   | (go_at_call 50;with_reducible refine (Fsd.out _).mono ?_;rintro e w' ⟨rfl,rfl⟩)
   | (go_at_call 50;with_reducible refine (Fen.out _).mono ?_;rintro e w' ⟨rfl,rfl⟩)
   | (go_at_call 50;with_reducible refine (F0.out _).mono ?_;rintro e w' ⟨rfl,rfl⟩))
 go_ret
 exact ⟨ret_b (by simp),below1 _ _⟩
theorem good15_33 (en:Int) (sd:Int) (h2:fitsB en=true) (h:fitsB sd=true):SelG 3 ⟨#[]⟩ 0 0 en false true sd:=by
 intro w hz
 have HG:goodB ⟨3,⟨#[]⟩,0,0,en,false,true,sd⟩=true:=by
   unfold goodB
   dsimp only
   simp[fits_zero,h2,h,(show badU [] = -1 from rfl)]
 rw[HG]
 clear HG
 have F0:=hid (fun w=>fits15_any 0 w)
 rw[fits_zero] at F0
 have Fen:=hid (fun w=>fits15_any en w)
 rw[h2] at Fen
 have Fsd:=hid (fun w=>fits15_any sd w)
 rw[h] at Fsd
 have KB:=hid (fun w=>rbad_any ⟨#[]⟩ w (by decide))
 rw[show badU (⟨#[]⟩:ByteArray).data.toList = -1 from rfl] at KB
 clear h2 h
 go_enter Tryd.func23,Tryd.ntmps23
 go_wp2_with (first
   | (go_at_call 50;with_reducible refine (Fsd.out _).mono ?_;rintro e w' ⟨rfl,rfl⟩)
   | (go_at_call 50;with_reducible refine (Fen.out _).mono ?_;rintro e w' ⟨rfl,rfl⟩)
   | (go_at_call 50;with_reducible refine (F0.out _).mono ?_;rintro e w' ⟨rfl,rfl⟩)
   | (go_at_call 41;refine (KB.out _).mono ?_;rintro e w' ⟨rfl,hb⟩;have HW:=hid ((below1 w _).trans (hb.mono (by simp)));clear hb))
 go_ret
 exact ⟨ret_b (by simp),HW.out⟩
theorem good15_34 (st:Int) (en:Int) (sd:Int) (h:en≠0):SelG 3 ⟨#[]⟩ 0 st en true false sd:=by
 intro w hz
 have HG:goodB ⟨3,⟨#[]⟩,0,st,en,true,false,sd⟩=false:=by
   unfold goodB
   dsimp only
   simp[h]
 rw[HG]
 clear HG
 have nen:=int_ne h
 have men:=int_eqf h
 clear h
 go_enter Tryd.func23,Tryd.ntmps23
 go_wp2
 go_ret
 exact ⟨ret_b (by simp),below1 _ _⟩
theorem good15_35 (st:Int) (sd:Int) (h:fitsB st=false):SelG 3 ⟨#[]⟩ 0 st 0 true false sd:=by
 intro w hz
 have HG:goodB ⟨3,⟨#[]⟩,0,st,0,true,false,sd⟩=false:=by
   unfold goodB
   dsimp only
   simp[fits_zero,h]
 rw[HG]
 clear HG
 have F0:=hid (fun w=>fits15_any 0 w)
 rw[fits_zero] at F0
 have Fst:=hid (fun w=>fits15_any st w)
 rw[h] at Fst
 clear h
 go_enter Tryd.func23,Tryd.ntmps23
 go_wp2_with (first
   | (go_at_call 50;with_reducible refine (Fst.out _).mono ?_;rintro e w' ⟨rfl,rfl⟩)
   | (go_at_call 50;with_reducible refine (F0.out _).mono ?_;rintro e w' ⟨rfl,rfl⟩))
 go_ret
 exact ⟨ret_b (by simp),below1 _ _⟩
theorem good15_36 (st:Int) (sd:Int) (h1:fitsB st=true) (h:fitsB sd=false):SelG 3 ⟨#[]⟩ 0 st 0 true false sd:=by
 intro w hz
 have HG:goodB ⟨3,⟨#[]⟩,0,st,0,true,false,sd⟩=false:=by
   unfold goodB
   dsimp only
   simp[fits_zero,h1,h]
 rw[HG]
 clear HG
 have F0:=hid (fun w=>fits15_any 0 w)
 rw[fits_zero] at F0
 have Fst:=hid (fun w=>fits15_any st w)
 rw[h1] at Fst
 have Fsd:=hid (fun w=>fits15_any sd w)
 rw[h] at Fsd
 clear h1 h
 go_enter Tryd.func23,Tryd.ntmps23
 go_wp2_with (first
   | (go_at_call 50;with_reducible refine (Fsd.out _).mono ?_;rintro e w' ⟨rfl,rfl⟩)
   | (go_at_call 50;with_reducible refine (Fst.out _).mono ?_;rintro e w' ⟨rfl,rfl⟩)
   | (go_at_call 50;with_reducible refine (F0.out _).mono ?_;rintro e w' ⟨rfl,rfl⟩))
 go_ret
 exact ⟨ret_b (by simp),below1 _ _⟩
theorem good15_37 (st:Int) (sd:Int) (h1:fitsB st=true) (h:fitsB sd=true):SelG 3 ⟨#[]⟩ 0 st 0 true false sd:=by
 intro w hz
 have HG:goodB ⟨3,⟨#[]⟩,0,st,0,true,false,sd⟩=true:=by
   unfold goodB
   dsimp only
   simp[fits_zero,h1,h,(show badU [] = -1 from rfl)]
 rw[HG]
 clear HG
 have F0:=hid (fun w=>fits15_any 0 w)
 rw[fits_zero] at F0
 have Fst:=hid (fun w=>fits15_any st w)
 rw[h1] at Fst
 have Fsd:=hid (fun w=>fits15_any sd w)
 rw[h] at Fsd
 have KB:=hid (fun w=>rbad_any ⟨#[]⟩ w (by decide))
 rw[show badU (⟨#[]⟩:ByteArray).data.toList = -1 from rfl] at KB
 clear h1 h
 go_enter Tryd.func23,Tryd.ntmps23
 go_wp2_with (first
   | (go_at_call 50;with_reducible refine (Fsd.out _).mono ?_;rintro e w' ⟨rfl,rfl⟩)
   | (go_at_call 50;with_reducible refine (Fst.out _).mono ?_;rintro e w' ⟨rfl,rfl⟩)
   | (go_at_call 50;with_reducible refine (F0.out _).mono ?_;rintro e w' ⟨rfl,rfl⟩)
   | (go_at_call 41;refine (KB.out _).mono ?_;rintro e w' ⟨rfl,hb⟩;have HW:=hid ((below1 w _).trans (hb.mono (by simp)));clear hb))
 go_ret
 exact ⟨ret_b (by simp),HW.out⟩
theorem good15_38 (st:Int) (en:Int) (sd:Int) (h:fitsB st=false):SelG 3 ⟨#[]⟩ 0 st en true true sd:=by
 intro w hz
 have HG:goodB ⟨3,⟨#[]⟩,0,st,en,true,true,sd⟩=false:=by
   unfold goodB
   dsimp only
   simp[fits_zero,h]
 rw[HG]
 clear HG
 have F0:=hid (fun w=>fits15_any 0 w)
 rw[fits_zero] at F0
 have Fst:=hid (fun w=>fits15_any st w)
 rw[h] at Fst
 clear h
 go_enter Tryd.func23,Tryd.ntmps23
 go_wp2_with (first
   | (go_at_call 50;with_reducible refine (Fst.out _).mono ?_;rintro e w' ⟨rfl,rfl⟩)
   | (go_at_call 50;with_reducible refine (F0.out _).mono ?_;rintro e w' ⟨rfl,rfl⟩))
 go_ret
 exact ⟨ret_b (by simp),below1 _ _⟩
theorem good15_39 (st:Int) (en:Int) (sd:Int) (h1:fitsB st=true) (h:fitsB en=false):SelG 3 ⟨#[]⟩ 0 st en true true sd:=by
 intro w hz
 have HG:goodB ⟨3,⟨#[]⟩,0,st,en,true,true,sd⟩=false:=by
   unfold goodB
   dsimp only
   simp[fits_zero,h1,h]
 rw[HG]
 clear HG
 have F0:=hid (fun w=>fits15_any 0 w)
 rw[fits_zero] at F0
 have Fst:=hid (fun w=>fits15_any st w)
 rw[h1] at Fst
 have Fen:=hid (fun w=>fits15_any en w)
 rw[h] at Fen
 clear h1 h
 go_enter Tryd.func23,Tryd.ntmps23
 go_wp2_with (first
   | (go_at_call 50;with_reducible refine (Fen.out _).mono ?_;rintro e w' ⟨rfl,rfl⟩)
   | (go_at_call 50;with_reducible refine (Fst.out _).mono ?_;rintro e w' ⟨rfl,rfl⟩)
   | (go_at_call 50;with_reducible refine (F0.out _).mono ?_;rintro e w' ⟨rfl,rfl⟩))
 go_ret
 exact ⟨ret_b (by simp),below1 _ _⟩
theorem good15_40 (st:Int) (en:Int) (sd:Int) (h1:fitsB st=true) (h2:fitsB en=true) (h:fitsB sd=false):SelG 3 ⟨#[]⟩ 0 st en true true sd:=by
 intro w hz
 have HG:goodB ⟨3,⟨#[]⟩,0,st,en,true,true,sd⟩=false:=by
   unfold goodB
   dsimp only
   simp[fits_zero,h1,h2,h]
 rw[HG]
 clear HG
 have F0:=hid (fun w=>fits15_any 0 w)
 rw[fits_zero] at F0
 have Fst:=hid (fun w=>fits15_any st w)
 rw[h1] at Fst
 have Fen:=hid (fun w=>fits15_any en w)
 rw[h2] at Fen
 have Fsd:=hid (fun w=>fits15_any sd w)
 rw[h] at Fsd
 clear h1 h2 h
 go_enter Tryd.func23,Tryd.ntmps23
 go_wp2_with (first
   | (go_at_call 50;with_reducible refine (Fsd.out _).mono ?_;rintro e w' ⟨rfl,rfl⟩)
   | (go_at_call 50;with_reducible refine (Fen.out _).mono ?_;rintro e w' ⟨rfl,rfl⟩)
   | (go_at_call 50;with_reducible refine (Fst.out _).mono ?_;rintro e w' ⟨rfl,rfl⟩)
   | (go_at_call 50;with_reducible refine (F0.out _).mono ?_;rintro e w' ⟨rfl,rfl⟩))
 go_ret
 exact ⟨ret_b (by simp),below1 _ _⟩
theorem good15_41 (st:Int) (en:Int) (sd:Int) (h1:fitsB st=true) (h2:fitsB en=true) (h:fitsB sd=true):SelG 3 ⟨#[]⟩ 0 st en true true sd:=by
 intro w hz
 have HG:goodB ⟨3,⟨#[]⟩,0,st,en,true,true,sd⟩=true:=by
   unfold goodB
   dsimp only
   simp[fits_zero,h1,h2,h,(show badU [] = -1 from rfl)]
 rw[HG]
 clear HG
 have F0:=hid (fun w=>fits15_any 0 w)
 rw[fits_zero] at F0
 have Fst:=hid (fun w=>fits15_any st w)
 rw[h1] at Fst
 have Fen:=hid (fun w=>fits15_any en w)
 rw[h2] at Fen
 have Fsd:=hid (fun w=>fits15_any sd w)
 rw[h] at Fsd
 have KB:=hid (fun w=>rbad_any ⟨#[]⟩ w (by decide))
 rw[show badU (⟨#[]⟩:ByteArray).data.toList = -1 from rfl] at KB
 clear h1 h2 h
 go_enter Tryd.func23,Tryd.ntmps23
 go_wp2_with (first
   | (go_at_call 50;with_reducible refine (Fsd.out _).mono ?_;rintro e w' ⟨rfl,rfl⟩)
   | (go_at_call 50;with_reducible refine (Fen.out _).mono ?_;rintro e w' ⟨rfl,rfl⟩)
   | (go_at_call 50;with_reducible refine (Fst.out _).mono ?_;rintro e w' ⟨rfl,rfl⟩)
   | (go_at_call 50;with_reducible refine (F0.out _).mono ?_;rintro e w' ⟨rfl,rfl⟩)
   | (go_at_call 41;refine (KB.out _).mono ?_;rintro e w' ⟨rfl,hb⟩;have HW:=hid ((below1 w _).trans (hb.mono (by simp)));clear hb))
 go_ret
 exact ⟨ret_b (by simp),HW.out⟩
theorem good15_any (y:Sel) (w:World) (hz:y.name.size≤maxLen) :
   Calls Tryd.prog 23 #[.agg #[.int .i64 y.kind,.string y.name,.int .i64 y.index,.int .i64 y.start,.int .i64 y.en,.bool y.hs,.bool y.he,.int .i64 y.stride]] w fun e w'=>e=.returned (.bool (goodB y))∧Below w.heap.size w w':=by
 obtain ⟨k,nm,ix,st,en,hs,he,sd⟩:=y
 revert w
 suffices h:SelG k nm ix st en hs he sd from fun w=>h w hz
 by_cases k0:k<0
 ·exact good15_1 k nm ix st en hs he sd k0
 by_cases k9:3<k
 ·exact good15_2 k nm ix st en hs he sd k9
 have hem:nm.data.toList=[]→nm=⟨#[]⟩:=fun e=>by rw[show nm=(⟨nm.data.toList.toArray⟩:ByteArray) by simp,e]
 by_cases c0:k=0
 ·subst c0
  by_cases i0:ix=0
  rotate_left
  ·exact good15_3 nm ix st en hs he sd i0
  subst i0
  by_cases s0:st=0
  rotate_left
  ·exact good15_4 nm st en hs he sd s0
  subst s0
  by_cases e0:en=0
  rotate_left
  ·exact good15_5 nm en hs he sd e0
  subst e0
  by_cases d0:sd=0
  rotate_left
  ·exact good15_6 nm hs he sd d0
  subst d0
  cases hs
  rotate_left
  ·exact good15_7 nm he
  cases he
  rotate_left
  ·exact good15_8 nm
  exact good15_name nm
 by_cases n0:nm.data.toList=[]
 rotate_left
 ·by_cases c1:k=1
  ·subst c1;exact good15_9 nm ix st en hs he sd n0
  by_cases c2:k=2
  ·subst c2;exact good15_17 nm ix st en hs he sd n0
  obtain rfl:k=3:=by omega
  exact good15_25 nm ix st en hs he sd n0
 obtain rfl:=hem n0
 by_cases c1:k=1
 ·subst c1
  by_cases i0:ix=0
  rotate_left
  ·exact good15_10 ix st en hs he sd i0
  subst i0
  by_cases s0:st=0
  rotate_left
  ·exact good15_11 st en hs he sd s0
  subst s0
  by_cases e0:en=0
  rotate_left
  ·exact good15_12 en hs he sd e0
  subst e0
  by_cases d0:sd=0
  rotate_left
  ·exact good15_13 hs he sd d0
  subst d0
  cases hs
  rotate_left
  ·exact good15_14 he
  cases he
  rotate_left
  ·exact good15_15
  exact good15_16
 by_cases c2:k=2
 ·subst c2
  by_cases s0:st=0
  rotate_left
  ·exact good15_18 ix st en hs he sd s0
  subst s0
  by_cases e0:en=0
  rotate_left
  ·exact good15_19 ix en hs he sd e0
  subst e0
  by_cases d0:sd=0
  rotate_left
  ·exact good15_20 ix hs he sd d0
  subst d0
  cases hs
  rotate_left
  ·exact good15_21 ix he
  cases he
  rotate_left
  ·exact good15_22 ix
  cases f0:fitsB ix
  ·exact good15_23 ix f0
  ·exact good15_24 ix f0
 obtain rfl:k=3:=by omega
 by_cases i0:ix=0
 rotate_left
 ·exact good15_26 ix st en hs he sd i0
 subst i0
 cases hs
 ·by_cases s0:st=0
  rotate_left
  ·exact good15_27 st en he sd s0
  subst s0
  cases he
  ·by_cases e0:en=0
   rotate_left
   ·exact good15_28 en sd e0
   subst e0
   cases f3:fitsB sd
   ·exact good15_29 sd f3
   ·exact good15_30 sd f3
  ·skip
   cases f2:fitsB en
   ·exact good15_31 en sd f2
   cases f3:fitsB sd
   ·exact good15_32 en sd f2 f3
   ·exact good15_33 en sd f2 f3
 ·skip
  cases he
  ·by_cases e0:en=0
   rotate_left
   ·exact good15_34 st en sd e0
   subst e0
   cases f1:fitsB st
   ·exact good15_35 st sd f1
   cases f3:fitsB sd
   ·exact good15_36 st sd f1 f3
   ·exact good15_37 st sd f1 f3
  ·skip
   cases f1:fitsB st
   ·exact good15_38 st en sd f1
   cases f2:fitsB en
   ·exact good15_39 st en sd f1 f2
   cases f3:fitsB sd
   ·exact good15_40 st en sd f1 f2 f3
   ·exact good15_41 st en sd f1 f2 f3
end
end Go.Proofs.YtmgdjlkndbejkaaDoor
