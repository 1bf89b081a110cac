/- Lemmas. -/
import Derived.Test.YtnokhgfifbkflaaGreatJ14
import Derived.Test.YtnokhgfifbkflaaGreatJ53
import Derived.Test.YtnokhgfifbkflaaGreatJ54
set_option maxRecDepth 100000
set_option maxHeartbeats 8000000
set_option linter.unusedVariables false
set_option linter.unusedSimpArgs false
namespace Go.Proofs.YtnokhgfifbkflaaGreat
open Go.Lib (hid)
section
open Go.RowKit
def RelSn (s:ByteArray) (W:World) (n i:Value) (wr:World):Prop :=
 ∃ m n0:Nat,m≤4∧m≤s.size∧i=.int .i64 ((m+1:Nat):Int)∧n=.int .i64 n0∧Below W.heap.size W wr ∧
   ((∃ sg lf,n0=0∧m≤3∧InvL (s.data.toList.take m) sg lf∧StU sg lf∧sgnL s.data.toList=sgnGo sg lf (s.data.toList.drop m) m) ∨
    (n0≠0∧sgnL s.data.toList=n0) ∨
    (n0=0∧1≤m∧sgnL s.data.toList=0∧(begR (s.data.toList.take m)).1=false))
theorem part_zero (s:ByteArray) (m:Nat) (hm:m<s.size):(s.extract 0 (m+1)).data.toList=s.data.toList.take m++[s[m]]∧(s.extract 0 (m+1)).data.toList=s.data.toList.take (m+1):=by
 have h:=part_snoc s 0 m (by omega) hm
 rw[List.drop_zero] at h
 refine ⟨h,?_⟩
 rw[h]
 exact (List.take_succ_eq_append_getElem (show m<s.data.toList.length from hm)).symm
theorem conv_str13 (w:World) (s:ByteArray):∃ c w1,(convert 9 22 (.string s)).run Tryz.prog w=.ok (.slice (some ⟨w.heap.size,0,none⟩) s.size c) w1 ∧
   Rd w1 w1.heap.size (some ⟨w.heap.size,0,none⟩) s.size (byteCells s.data.toList)∧Below w.heap.size w w1:=by
 have hz:=Lib.bytesWorld_size w 5 s
 refine ⟨_,_,Lib.run_convert_string_bytes w _ _ 5 s Tryz.underlying9 Tryz.underlying22 Tryz.underlying5,⟨byteCells_length _,fun h=>⟨_,rfl,by rw[hz];exact Nat.lt_succ_self _,fun j u hu => ?_⟩⟩,
   ⟨rfl,rfl,rfl,by rw[hz];exact Nat.le_succ _,fun k hk=>Lib.bytesWorld_at_old w _ s k hk⟩⟩
 have hj:j<s.size:=by have:=(List.getElem?_eq_some_iff.1 hu).1;rw[byteCells_length] at this;exact this
 rw[add_none,Nat.zero_add,Lib.bytesWorld_cell w _ s j hj]
 unfold byteCells at hu
 rw[List.getElem?_map,List.getElem?_eq_getElem (show j<s.data.toList.length from hj)] at hu
 rw[← hu]
 simp[hj]
def SgnEnd (l:List UInt8) (W:World) (e:Ending) (w':World):Prop :=
 ∃ g c,e=.returned (.tuple #[.slice (some ⟨g,0,none⟩) (pieceM l (sgnL l)).length c,.int .i64 (goOn (sgnL l):Nat)])∧Rd w' w'.heap.size (some ⟨g,0,none⟩) (pieceM l (sgnL l)).length (byteCells (pieceM l (sgnL l)))∧Below W.heap.size W w'
theorem head_is (s:ByteArray) (h:0<s.size):s.data.toList=s[0] :: s.data.toList.drop 1:=by
 have:=List.drop_eq_getElem_cons (l:=s.data.toList) (i:=0) h
 rw[List.drop_zero] at this
 exact this
theorem sign13_any (s:ByteArray) (W:World) (h0:0<s.size) (h9:s.size≤1000) :
   Calls Tryz.prog 58 #[.string s] W (SgnEnd s.data.toList W):=by
 have hsl:s.data.toList.length=s.size:=rfl
 unfold SgnEnd
 go_enter Tryz.func58,Tryz.ntmps58
 go_upto_block 0 with fail
 go_cut [4,5,6,7,8] from 13 to 36 (fun n _ _ _ _ wc=>n=.int .i64 (sgnL s.data.toList:Nat)∧Below W.heap.size W wc)
 case first =>
   go_wp2
   go_loopw [4,5] (fun n i wr=>RelSn s W n i wr) (fun _ i _=>6-(intOf i).toNat)
   case atStart=>exact ⟨0,0,by omega,by omega,rfl,rfl,Below.refl _ _,.inl ⟨0,0,rfl,by omega,rfl,stU_zero,rfl⟩⟩
   case round =>
     obtain ⟨m,n0,hm4,hm,rfl,rfl,hb,hway⟩:=hrel
     by_cases hlt:m<s.size∧m<4
     ·obtain ⟨hl1,hl2⟩:=hlt
      obtain ⟨hp1,hp2⟩:=part_zero s m hl1
      have q1:(m:Int)+1≤s.size:=by omega
      have q2:(m:Int)+1≤4:=by omega
      have q3:m+1≤s.size:=by omega
      have hz1:0<(s.extract 0 (m+1)).size:=by rw[ByteArray.size_extract];omega
      rcases hway with ⟨sg,lf,rfl,hm3,hinv,hst,hsg⟩|⟨hj,hsg⟩|⟨rfl,hm1,hsg,hbg⟩
      ·rw [sgnGo_cons _ _ _ _ _ (show m<s.data.toList.length from hl1),show s.data.toList[m]=s[m] from rfl] at hsg
       by_cases hok:okU sg lf s[m].toNat=true
       ·have hst':=stU_step hst (Int.natCast_nonneg _) hok
        have hinv':=invL_step hinv hok
        rw[if_pos hok] at hsg
        by_cases hz:lfU lf s[m].toNat=0
        ·have HB:=hid (fun w=>rbegins_step _ _ _ _ _ hp1 hinv w (x:=true) (y:=true) (z:=sgU sg lf s[m].toNat) (by unfold ansU;rw[if_pos hok,if_pos hz]))
         rw[if_pos hz] at hsg
         have HS:=hid hsg
         clear hinv' hinv hsg hp1 hp2 hok hz hst hst' hsl
         go_wp2_with (go_at_call 85;refine (HB.out _).mono ?_;rintro e w' ⟨rfl,hb2⟩)
         go_roundw
         case rel=>exact ⟨m+1,m+1,by omega,by omega,by go_num,by go_num,hb.trans (hb2.mono hb.size),.inr (.inl ⟨by omega,HS.out⟩)⟩
         case measure=>simp[intOf];omega
        ·have HB:=hid (fun w=>rbegins_step _ _ _ _ _ hp1 hinv w (x:=true) (y:=false) (z:=0) (by unfold ansU;rw[if_pos hok,if_neg hz]))
         rw[if_neg hz] at hsg hinv'
         rw[← hp1,hp2] at hinv'
         have hi3:=(invL_len hinv').1
         rw[List.length_take] at hi3
         have hi3':m+1≤3:=by omega
         have HS:=hid hsg
         have HI:=hid hinv'
         have HT:=hid hst'
         clear hinv' hinv hsg hp1 hp2 hok hz hst hst' hsl hi3
         go_wp2_with (go_at_call 85;refine (HB.out _).mono ?_;rintro e w' ⟨rfl,hb2⟩)
         go_roundw
         case rel=>exact ⟨m+1,0,by omega,by omega,by go_num,rfl,hb.trans (hb2.mono hb.size),.inl ⟨_,_,rfl,hi3',HI.out,HT.out,HS.out⟩⟩
         case measure=>simp[intOf];omega
       ·have HB:=hid (fun w=>rbegins_step _ _ _ _ _ hp1 hinv w (x:=false) (y:=false) (z:=0) (by unfold ansU;rw[if_neg hok]))
        rw[if_neg hok] at hsg
        have hbg:=beg_any (s.data.toList.take m) s[m] sg lf hinv
        rw[← hp1,hp2] at hbg
        have HG:=hid (show (begR (s.data.toList.take (m+1))).1=false by rw[hbg];unfold ansU;rw[if_neg hok])
        have HS:=hid hsg
        clear hinv hsg hp1 hp2 hok hst hsl hbg
        go_wp2_with (go_at_call 85;refine (HB.out _).mono ?_;rintro e w' ⟨rfl,hb2⟩)
        go_roundw
        case rel=>exact ⟨m+1,0,by omega,by omega,by go_num,rfl,hb.trans (hb2.mono hb.size),.inr (.inr ⟨rfl,by omega,HS.out,HG.out⟩)⟩
        case measure=>simp[intOf];omega
      ·have HB:=hid (fun w=>rbegins_any (s.extract 0 (m+1)) w hz1)
       obtain ⟨x,y,z,hx⟩:∃ x y z,begR (s.extract 0 (m+1)).data.toList=(x,y,z):=⟨_,_,_,rfl⟩
       rw[hx] at HB
       have gj:((n0:Int)==0)=false:=beq_eq_false_iff_ne.2 (by omega)
       have HS:=hid hsg
       clear hsg hp1 hp2 hsl hx
       cases y
       all_goals
         go_wp2_with (go_at_call 85;refine (HB.out _).mono ?_;rintro e w' ⟨rfl,hb2⟩)
         go_roundw
         case rel=>exact ⟨m+1,n0,by omega,by omega,by go_num,rfl,hb.trans (hb2.mono hb.size),.inr (.inl ⟨hj,HS.out⟩)⟩
         case measure=>simp[intOf];omega
      ·have HB:=hid (fun w=>rbegins_any (s.extract 0 (m+1)) w hz1)
       have hd:begR (s.extract 0 (m+1)).data.toList=(false,false,0):=by
         rw[hp1]
         refine beg_dead _ _ (fun e => ?_) hbg
         have:=congrArg List.length e
         rw[List.length_take,List.length_nil] at this
         omega
       rw[hd] at HB
       rw[hp2] at hd
       have HG:=hid (show (begR (s.data.toList.take (m+1))).1=false by rw[hd])
       have HS:=hid hsg
       clear hsg hp1 hp2 hsl hd hbg
       go_wp2_with (go_at_call 85;refine (HB.out _).mono ?_;rintro e w' ⟨rfl,hb2⟩)
       go_roundw
       case rel=>exact ⟨m+1,0,by omega,by omega,by go_num,rfl,hb.trans (hb2.mono hb.size),.inr (.inr ⟨rfl,by omega,HS.out,HG.out⟩)⟩
       case measure=>simp[intOf];omega
     ·have hn0:sgnL s.data.toList=n0:=by
        rcases hway with ⟨sg,lf,rfl,hm3,hinv,hst,hsg⟩|⟨hj,hsg⟩|⟨rfl,hm1,hsg,hbg⟩
        ·rw[hsg,List.drop_of_length_le (by rw[hsl];omega)]
         rfl
        ·exact hsg
        ·exact hsg
      have HN:=hid hn0
      clear hway hn0 hsl
      by_cases hs1:m<s.size
      ·have q1:(m:Int)+1≤s.size:=by omega
       have q2:¬ (m:Int)+1≤4:=by omega
       go_wp2
       go_meet
       case rel=>exact ⟨by rw[HN.out],hb⟩
      ·have q1:¬ (m:Int)+1≤s.size:=by omega
       go_wp2
       go_meet
       case rel=>exact ⟨by rw[HN.out],hb⟩
 case rest =>
 obtain ⟨rfl,hb0⟩:=hcut
 generalize hn:sgnL s.data.toList=n at *
 have hhd:=head_is s h0
 by_cases hz:n=0
 ·subst hz
  have hpc:pieceM s.data.toList 0=stranger:=by rw[hhd,pieceM_cons,if_pos rfl]
  have HR:=hid (fun w=>lit_rd w #[.int .u8 239,.int .u8 191,.int .u8 189] stranger rfl)
  have HPC:=hid hpc
  have HN:=hid hn
  clear hpc hhd hn hsl
  go_wp2
  go_ret2
  (try rw[HN.out])
  rw[HPC.out]
  exact ⟨_,_,rfl,(HR.out _).more (by simp),hb0.alloc hb0.size _⟩
 have gz:((n:Int)==0)=false:=beq_eq_false_iff_ne.2 (by omega)
 have HGO:=hid (show goOn n=n from if_neg hz)
 have HN:=hid hn
 have hnl:=(sgnL_take hn hz []).2.2
 rw[hsl] at hnl
 have hsz:(s.extract 0 n).size=n:=by rw[ByteArray.size_extract];omega
 have hdt:(s.extract 0 n).data.toList=s.data.toList.take n:=by
   have:=part_is s 0 n
   rwa [List.drop_zero,Nat.zero_add] at this
 have HCV:=hid (fun w=>conv_str13 w (s.extract 0 n))
 rw[hsz,hdt] at HCV
 have q0:n≤s.size:=hnl
 by_cases hn1:n=1
 ·subst hn1
  have hpc:pieceM s.data.toList 1=if escN s[0]≠0 then [92,escN s[0]] else if s[0].toNat<32 then ctlN s[0] else [s[0]]:=by
    rw[hhd,pieceM_cons,if_neg (by decide)]
    rfl
  by_cases he:escN s[0]≠0
  ·rw [if_pos he] at hpc
   have hc:=escN_cases he
   clear hhd hn hsl hdt hsz he HCV
   rcases hc with hc|hc|hc|hc|hc|hc|hc
   ·have hcI:(s[0].toNat:Int)=8:=by rw[hc];rfl
    have hE:[92,escN s[0]]=[92,98]:=by rw[hc];rfl
    have HR:=hid (fun w=>lit_rd w #[.int .u8 92,.int .u8 98] [92,98] rfl)
    have HPC:=hid (hpc.trans hE)
    clear hE hc hpc
    go_wp2_with (go_at_call 86;refine (letters13_any _).mono ?_;rintro e w3 ⟨rfl,o1,o2,hb3,hlt3⟩;have HO1:=hid o1;have HO2:=hid o2;have HB3:=hid (hb0.trans (hb3.mono hb0.size));clear o1 o2 hb3)
    have f0:=HO1.out.at 0
    have g0:=HO2.out.at 0
    have f1:=HO1.out.at 1
    have g1:=HO2.out.at 1
    have f2:=HO1.out.at 2
    have g2:=HO2.out.at 2
    have f3:=HO1.out.at 3
    have g3:=HO2.out.at 3
    have f4:=HO1.out.at 4
    have g4:=HO2.out.at 4
    have f5:=HO1.out.at 5
    have g5:=HO2.out.at 5
    have f6:=HO1.out.at 6
    have g6:=HO2.out.at 6
    simp[byteCells,fromL] at f0 f1 f2 f3 f4 f5 f6
    simp[byteCells,toL] at g0 g1 g2 g3 g4 g5 g6
    have qq1:((s[0].toNat:Int)==8)=true:=by rw[hcI];rfl
    clear hcI
    refine wp_loop_rounds 8 ?_
    rw[rounds_succ];go_wp2
    go_ret2
    (try rw[HN.out])
    rw[HPC.out,HGO.out]
    exact ⟨_,_,rfl,(HR.out _).more (by simp),HB3.out.alloc HB3.out.size _⟩
   ·have hcI:(s[0].toNat:Int)=9:=by rw[hc];rfl
    have hE:[92,escN s[0]]=[92,116]:=by rw[hc];rfl
    have HR:=hid (fun w=>lit_rd w #[.int .u8 92,.int .u8 116] [92,116] rfl)
    have HPC:=hid (hpc.trans hE)
    clear hE hc hpc
    go_wp2_with (go_at_call 86;refine (letters13_any _).mono ?_;rintro e w3 ⟨rfl,o1,o2,hb3,hlt3⟩;have HO1:=hid o1;have HO2:=hid o2;have HB3:=hid (hb0.trans (hb3.mono hb0.size));clear o1 o2 hb3)
    have f0:=HO1.out.at 0
    have g0:=HO2.out.at 0
    have f1:=HO1.out.at 1
    have g1:=HO2.out.at 1
    have f2:=HO1.out.at 2
    have g2:=HO2.out.at 2
    have f3:=HO1.out.at 3
    have g3:=HO2.out.at 3
    have f4:=HO1.out.at 4
    have g4:=HO2.out.at 4
    have f5:=HO1.out.at 5
    have g5:=HO2.out.at 5
    have f6:=HO1.out.at 6
    have g6:=HO2.out.at 6
    simp[byteCells,fromL] at f0 f1 f2 f3 f4 f5 f6
    simp[byteCells,toL] at g0 g1 g2 g3 g4 g5 g6
    have q01:((s[0].toNat:Int)==8)=false:=by rw[hcI];rfl
    have qq1:((s[0].toNat:Int)==9)=true:=by rw[hcI];rfl
    clear hcI
    refine wp_loop_rounds 8 ?_
    rw[rounds_succ];go_wp2
    rw[rounds_succ];go_wp2
    go_ret2
    (try rw[HN.out])
    rw[HPC.out,HGO.out]
    exact ⟨_,_,rfl,(HR.out _).more (by simp),HB3.out.alloc HB3.out.size _⟩
   ·have hcI:(s[0].toNat:Int)=10:=by rw[hc];rfl
    have hE:[92,escN s[0]]=[92,110]:=by rw[hc];rfl
    have HR:=hid (fun w=>lit_rd w #[.int .u8 92,.int .u8 110] [92,110] rfl)
    have HPC:=hid (hpc.trans hE)
    clear hE hc hpc
    go_wp2_with (go_at_call 86;refine (letters13_any _).mono ?_;rintro e w3 ⟨rfl,o1,o2,hb3,hlt3⟩;have HO1:=hid o1;have HO2:=hid o2;have HB3:=hid (hb0.trans (hb3.mono hb0.size));clear o1 o2 hb3)
    have f0:=HO1.out.at 0
    have g0:=HO2.out.at 0
    have f1:=HO1.out.at 1
    have g1:=HO2.out.at 1
    have f2:=HO1.out.at 2
    have g2:=HO2.out.at 2
    have f3:=HO1.out.at 3
    have g3:=HO2.out.at 3
    have f4:=HO1.out.at 4
    have g4:=HO2.out.at 4
    have f5:=HO1.out.at 5
    have g5:=HO2.out.at 5
    have f6:=HO1.out.at 6
    have g6:=HO2.out.at 6
    simp[byteCells,fromL] at f0 f1 f2 f3 f4 f5 f6
    simp[byteCells,toL] at g0 g1 g2 g3 g4 g5 g6
    have q01:((s[0].toNat:Int)==8)=false:=by rw[hcI];rfl
    have q11:((s[0].toNat:Int)==9)=false:=by rw[hcI];rfl
    have qq1:((s[0].toNat:Int)==10)=true:=by rw[hcI];rfl
    clear hcI
    refine wp_loop_rounds 8 ?_
    rw[rounds_succ];go_wp2
    rw[rounds_succ];go_wp2
    rw[rounds_succ];go_wp2
    go_ret2
    (try rw[HN.out])
    rw[HPC.out,HGO.out]
    exact ⟨_,_,rfl,(HR.out _).more (by simp),HB3.out.alloc HB3.out.size _⟩
   ·have hcI:(s[0].toNat:Int)=12:=by rw[hc];rfl
    have hE:[92,escN s[0]]=[92,102]:=by rw[hc];rfl
    have HR:=hid (fun w=>lit_rd w #[.int .u8 92,.int .u8 102] [92,102] rfl)
    have HPC:=hid (hpc.trans hE)
    clear hE hc hpc
    go_wp2_with (go_at_call 86;refine (letters13_any _).mono ?_;rintro e w3 ⟨rfl,o1,o2,hb3,hlt3⟩;have HO1:=hid o1;have HO2:=hid o2;have HB3:=hid (hb0.trans (hb3.mono hb0.size));clear o1 o2 hb3)
    have f0:=HO1.out.at 0
    have g0:=HO2.out.at 0
    have f1:=HO1.out.at 1
    have g1:=HO2.out.at 1
    have f2:=HO1.out.at 2
    have g2:=HO2.out.at 2
    have f3:=HO1.out.at 3
    have g3:=HO2.out.at 3
    have f4:=HO1.out.at 4
    have g4:=HO2.out.at 4
    have f5:=HO1.out.at 5
    have g5:=HO2.out.at 5
    have f6:=HO1.out.at 6
    have g6:=HO2.out.at 6
    simp[byteCells,fromL] at f0 f1 f2 f3 f4 f5 f6
    simp[byteCells,toL] at g0 g1 g2 g3 g4 g5 g6
    have q01:((s[0].toNat:Int)==8)=false:=by rw[hcI];rfl
    have q11:((s[0].toNat:Int)==9)=false:=by rw[hcI];rfl
    have q21:((s[0].toNat:Int)==10)=false:=by rw[hcI];rfl
    have qq1:((s[0].toNat:Int)==12)=true:=by rw[hcI];rfl
    clear hcI
    refine wp_loop_rounds 8 ?_
    rw[rounds_succ];go_wp2
    rw[rounds_succ];go_wp2
    rw[rounds_succ];go_wp2
    rw[rounds_succ];go_wp2
    go_ret2
    (try rw[HN.out])
    rw[HPC.out,HGO.out]
    exact ⟨_,_,rfl,(HR.out _).more (by simp),HB3.out.alloc HB3.out.size _⟩
   ·have hcI:(s[0].toNat:Int)=13:=by rw[hc];rfl
    have hE:[92,escN s[0]]=[92,114]:=by rw[hc];rfl
    have HR:=hid (fun w=>lit_rd w #[.int .u8 92,.int .u8 114] [92,114] rfl)
    have HPC:=hid (hpc.trans hE)
    clear hE hc hpc
    go_wp2_with (go_at_call 86;refine (letters13_any _).mono ?_;rintro e w3 ⟨rfl,o1,o2,hb3,hlt3⟩;have HO1:=hid o1;have HO2:=hid o2;have HB3:=hid (hb0.trans (hb3.mono hb0.size));clear o1 o2 hb3)
    have f0:=HO1.out.at 0
    have g0:=HO2.out.at 0
    have f1:=HO1.out.at 1
    have g1:=HO2.out.at 1
    have f2:=HO1.out.at 2
    have g2:=HO2.out.at 2
    have f3:=HO1.out.at 3
    have g3:=HO2.out.at 3
    have f4:=HO1.out.at 4
    have g4:=HO2.out.at 4
    have f5:=HO1.out.at 5
    have g5:=HO2.out.at 5
    have f6:=HO1.out.at 6
    have g6:=HO2.out.at 6
    simp[byteCells,fromL] at f0 f1 f2 f3 f4 f5 f6
    simp[byteCells,toL] at g0 g1 g2 g3 g4 g5 g6
    have q01:((s[0].toNat:Int)==8)=false:=by rw[hcI];rfl
    have q11:((s[0].toNat:Int)==9)=false:=by rw[hcI];rfl
    have q21:((s[0].toNat:Int)==10)=false:=by rw[hcI];rfl
    have q31:((s[0].toNat:Int)==12)=false:=by rw[hcI];rfl
    have qq1:((s[0].toNat:Int)==13)=true:=by rw[hcI];rfl
    clear hcI
    refine wp_loop_rounds 8 ?_
    rw[rounds_succ];go_wp2
    rw[rounds_succ];go_wp2
    rw[rounds_succ];go_wp2
    rw[rounds_succ];go_wp2
    rw[rounds_succ];go_wp2
    go_ret2
    (try rw[HN.out])
    rw[HPC.out,HGO.out]
    exact ⟨_,_,rfl,(HR.out _).more (by simp),HB3.out.alloc HB3.out.size _⟩
   ·have hcI:(s[0].toNat:Int)=39:=by rw[hc];rfl
    have hE:[92,escN s[0]]=[92,39]:=by rw[hc];rfl
    have HR:=hid (fun w=>lit_rd w #[.int .u8 92,.int .u8 39] [92,39] rfl)
    have HPC:=hid (hpc.trans hE)
    clear hE hc hpc
    go_wp2_with (go_at_call 86;refine (letters13_any _).mono ?_;rintro e w3 ⟨rfl,o1,o2,hb3,hlt3⟩;have HO1:=hid o1;have HO2:=hid o2;have HB3:=hid (hb0.trans (hb3.mono hb0.size));clear o1 o2 hb3)
    have f0:=HO1.out.at 0
    have g0:=HO2.out.at 0
    have f1:=HO1.out.at 1
    have g1:=HO2.out.at 1
    have f2:=HO1.out.at 2
    have g2:=HO2.out.at 2
    have f3:=HO1.out.at 3
    have g3:=HO2.out.at 3
    have f4:=HO1.out.at 4
    have g4:=HO2.out.at 4
    have f5:=HO1.out.at 5
    have g5:=HO2.out.at 5
    have f6:=HO1.out.at 6
    have g6:=HO2.out.at 6
    simp[byteCells,fromL] at f0 f1 f2 f3 f4 f5 f6
    simp[byteCells,toL] at g0 g1 g2 g3 g4 g5 g6
    have q01:((s[0].toNat:Int)==8)=false:=by rw[hcI];rfl
    have q11:((s[0].toNat:Int)==9)=false:=by rw[hcI];rfl
    have q21:((s[0].toNat:Int)==10)=false:=by rw[hcI];rfl
    have q31:((s[0].toNat:Int)==12)=false:=by rw[hcI];rfl
    have q41:((s[0].toNat:Int)==13)=false:=by rw[hcI];rfl
    have qq1:((s[0].toNat:Int)==39)=true:=by rw[hcI];rfl
    clear hcI
    refine wp_loop_rounds 8 ?_
    rw[rounds_succ];go_wp2
    rw[rounds_succ];go_wp2
    rw[rounds_succ];go_wp2
    rw[rounds_succ];go_wp2
    rw[rounds_succ];go_wp2
    rw[rounds_succ];go_wp2
    go_ret2
    (try rw[HN.out])
    rw[HPC.out,HGO.out]
    exact ⟨_,_,rfl,(HR.out _).more (by simp),HB3.out.alloc HB3.out.size _⟩
   ·have hcI:(s[0].toNat:Int)=92:=by rw[hc];rfl
    have hE:[92,escN s[0]]=[92,92]:=by rw[hc];rfl
    have HR:=hid (fun w=>lit_rd w #[.int .u8 92,.int .u8 92] [92,92] rfl)
    have HPC:=hid (hpc.trans hE)
    clear hE hc hpc
    go_wp2_with (go_at_call 86;refine (letters13_any _).mono ?_;rintro e w3 ⟨rfl,o1,o2,hb3,hlt3⟩;have HO1:=hid o1;have HO2:=hid o2;have HB3:=hid (hb0.trans (hb3.mono hb0.size));clear o1 o2 hb3)
    have f0:=HO1.out.at 0
    have g0:=HO2.out.at 0
    have f1:=HO1.out.at 1
    have g1:=HO2.out.at 1
    have f2:=HO1.out.at 2
    have g2:=HO2.out.at 2
    have f3:=HO1.out.at 3
    have g3:=HO2.out.at 3
    have f4:=HO1.out.at 4
    have g4:=HO2.out.at 4
    have f5:=HO1.out.at 5
    have g5:=HO2.out.at 5
    have f6:=HO1.out.at 6
    have g6:=HO2.out.at 6
    simp[byteCells,fromL] at f0 f1 f2 f3 f4 f5 f6
    simp[byteCells,toL] at g0 g1 g2 g3 g4 g5 g6
    have q01:((s[0].toNat:Int)==8)=false:=by rw[hcI];rfl
    have q11:((s[0].toNat:Int)==9)=false:=by rw[hcI];rfl
    have q21:((s[0].toNat:Int)==10)=false:=by rw[hcI];rfl
    have q31:((s[0].toNat:Int)==12)=false:=by rw[hcI];rfl
    have q41:((s[0].toNat:Int)==13)=false:=by rw[hcI];rfl
    have q51:((s[0].toNat:Int)==39)=false:=by rw[hcI];rfl
    have qq1:((s[0].toNat:Int)==92)=true:=by rw[hcI];rfl
    clear hcI
    refine wp_loop_rounds 8 ?_
    rw[rounds_succ];go_wp2
    rw[rounds_succ];go_wp2
    rw[rounds_succ];go_wp2
    rw[rounds_succ];go_wp2
    rw[rounds_succ];go_wp2
    rw[rounds_succ];go_wp2
    rw[rounds_succ];go_wp2
    go_ret2
    (try rw[HN.out])
    rw[HPC.out,HGO.out]
    exact ⟨_,_,rfl,(HR.out _).more (by simp),HB3.out.alloc HB3.out.size _⟩
  ·rw [if_neg he] at hpc
   have he:=Classical.not_not.1 he
   by_cases h32:s[0].toNat<32
   ·rw [if_pos h32] at hpc
    have h32I:(s[0].toNat:Int)<32:=by omega
    have KL1:=hid (fun w=>rlowerN_any (s[0].toNat/16) (by omega) w)
    have KL2:=hid (fun w=>rlowerN_any (s[0].toNat%16) (by omega) w)
    rw[show ((s[0].toNat/16:Nat):Int)=(s[0].toNat:Int)/16 by omega] at KL1
    rw[show ((s[0].toNat%16:Nat):Int)=(s[0].toNat:Int)%16 by omega] at KL2
    have hc8:s[0].toNat≤255:=by have:=UInt8.toNat_lt s[0];omega
    have e1:IntKind.i64.wrap (s[0].toNat:Int)=s[0].toNat:=by rw[IntKind.wrap_i64];omega
    have e2:(s[0].toNat:Int).tdiv 16=(s[0].toNat:Int)/16:=Int.tdiv_eq_ediv_of_nonneg (by omega)
    have e3:IntKind.i64.wrap ((s[0].toNat:Int)/16)=(s[0].toNat:Int)/16:=by rw[IntKind.wrap_i64];omega
    have e4:(s[0].toNat:Int).tmod 16=(s[0].toNat:Int)%16:=Int.tmod_eq_emod_of_nonneg (by omega)
    have e5:IntKind.i64.wrap ((s[0].toNat:Int)%16)=(s[0].toNat:Int)%16:=by rw[IntKind.wrap_i64];omega
    have HR:=hid (fun w=>lit_rd w #[.int .u8 92,.int .u8 117,.int .u8 48,.int .u8 48,.int .u8 (lowB (s[0].toNat/16)).toNat,.int .u8 (lowB (s[0].toNat%16)).toNat] (ctlN s[0]) rfl)
    have hct:(ctlN s[0]).length=6:=rfl
    rw[hct] at HR
    have HPC:=hid hpc
    go_wp2_with (go_at_call 86;refine (letters13_any _).mono ?_;rintro e w3 ⟨rfl,o1,o2,hb3,hlt3⟩;have HO1:=hid o1;have HO2:=hid o2;have HB3:=hid (hb0.trans (hb3.mono hb0.size));clear o1 o2 hb3)
    have f0:=HO1.out.at 0
    have g0:=HO2.out.at 0
    have f1:=HO1.out.at 1
    have g1:=HO2.out.at 1
    have f2:=HO1.out.at 2
    have g2:=HO2.out.at 2
    have f3:=HO1.out.at 3
    have g3:=HO2.out.at 3
    have f4:=HO1.out.at 4
    have g4:=HO2.out.at 4
    have f5:=HO1.out.at 5
    have g5:=HO2.out.at 5
    have f6:=HO1.out.at 6
    have g6:=HO2.out.at 6
    simp[byteCells,fromL] at f0 f1 f2 f3 f4 f5 f6
    simp[byteCells,toL] at g0 g1 g2 g3 g4 g5 g6
    have q01:((s[0].toNat:Int)==8)=false:=beq_eq_false_iff_ne.2 (fun e=>by have e2:s[0]=8:=UInt8.toNat_inj.1 (by rw[show ((8:UInt8).toNat)=8 from rfl];omega);rw[e2] at he;exact absurd he (by decide))
    have q11:((s[0].toNat:Int)==9)=false:=beq_eq_false_iff_ne.2 (fun e=>by have e2:s[0]=9:=UInt8.toNat_inj.1 (by rw[show ((9:UInt8).toNat)=9 from rfl];omega);rw[e2] at he;exact absurd he (by decide))
    have q21:((s[0].toNat:Int)==10)=false:=beq_eq_false_iff_ne.2 (fun e=>by have e2:s[0]=10:=UInt8.toNat_inj.1 (by rw[show ((10:UInt8).toNat)=10 from rfl];omega);rw[e2] at he;exact absurd he (by decide))
    have q31:((s[0].toNat:Int)==12)=false:=beq_eq_false_iff_ne.2 (fun e=>by have e2:s[0]=12:=UInt8.toNat_inj.1 (by rw[show ((12:UInt8).toNat)=12 from rfl];omega);rw[e2] at he;exact absurd he (by decide))
    have q41:((s[0].toNat:Int)==13)=false:=beq_eq_false_iff_ne.2 (fun e=>by have e2:s[0]=13:=UInt8.toNat_inj.1 (by rw[show ((13:UInt8).toNat)=13 from rfl];omega);rw[e2] at he;exact absurd he (by decide))
    have q51:((s[0].toNat:Int)==39)=false:=beq_eq_false_iff_ne.2 (fun e=>by have e2:s[0]=39:=UInt8.toNat_inj.1 (by rw[show ((39:UInt8).toNat)=39 from rfl];omega);rw[e2] at he;exact absurd he (by decide))
    have q61:((s[0].toNat:Int)==92)=false:=beq_eq_false_iff_ne.2 (fun e=>by have e2:s[0]=92:=UInt8.toNat_inj.1 (by rw[show ((92:UInt8).toNat)=92 from rfl];omega);rw[e2] at he;exact absurd he (by decide))
    clear hhd hn hsl hdt hsz he hct HCV hpc
    refine wp_loop_rounds 8 ?_
    rw[rounds_succ];go_wp2
    rw[rounds_succ];go_wp2
    rw[rounds_succ];go_wp2
    rw[rounds_succ];go_wp2
    rw[rounds_succ];go_wp2
    rw[rounds_succ];go_wp2
    rw[rounds_succ];go_wp2
    rw[rounds_succ]
    go_upto_region 18 with fail
    clear q01 q11 q21 q31 q41 q51 q61 f0 f1 f2 f3 f4 f5 f6 g0 g1 g2 g3 g4 g5 g6
    go_region_with (first
      | (go_at_call 87;with_reducible refine (KL1.out _).mono ?_;rintro e w' ⟨rfl,rfl⟩)
      | (go_at_call 87;with_reducible refine (KL2.out _).mono ?_;rintro e w' ⟨rfl,rfl⟩))
    all_goals
      go_wp2
      go_ret2
      (try rw[HN.out])
      rw[HPC.out,HGO.out]
      exact ⟨_,_,rfl,(HR.out _).more (by simp),HB3.out.drew.alloc HB3.out.size _⟩
   ·rw[if_neg h32] at hpc
    have HPC:=hid hpc
    have h32I:¬ (s[0].toNat:Int)<32:=by omega
    have htk:s.data.toList.take 1=[s[0]]:=by rw[hhd];rfl
    rw[htk] at HCV
    go_wp2_with (go_at_call 86;refine (letters13_any _).mono ?_;rintro e w3 ⟨rfl,o1,o2,hb3,hlt3⟩;have HO1:=hid o1;have HO2:=hid o2;have HB3:=hid (hb0.trans (hb3.mono hb0.size));clear o1 o2 hb3)
    have f0:=HO1.out.at 0
    have g0:=HO2.out.at 0
    have f1:=HO1.out.at 1
    have g1:=HO2.out.at 1
    have f2:=HO1.out.at 2
    have g2:=HO2.out.at 2
    have f3:=HO1.out.at 3
    have g3:=HO2.out.at 3
    have f4:=HO1.out.at 4
    have g4:=HO2.out.at 4
    have f5:=HO1.out.at 5
    have g5:=HO2.out.at 5
    have f6:=HO1.out.at 6
    have g6:=HO2.out.at 6
    simp[byteCells,fromL] at f0 f1 f2 f3 f4 f5 f6
    simp[byteCells,toL] at g0 g1 g2 g3 g4 g5 g6
    have q01:((s[0].toNat:Int)==8)=false:=beq_eq_false_iff_ne.2 (fun e=>by have e2:s[0]=8:=UInt8.toNat_inj.1 (by rw[show ((8:UInt8).toNat)=8 from rfl];omega);rw[e2] at he;exact absurd he (by decide))
    have q11:((s[0].toNat:Int)==9)=false:=beq_eq_false_iff_ne.2 (fun e=>by have e2:s[0]=9:=UInt8.toNat_inj.1 (by rw[show ((9:UInt8).toNat)=9 from rfl];omega);rw[e2] at he;exact absurd he (by decide))
    have q21:((s[0].toNat:Int)==10)=false:=beq_eq_false_iff_ne.2 (fun e=>by have e2:s[0]=10:=UInt8.toNat_inj.1 (by rw[show ((10:UInt8).toNat)=10 from rfl];omega);rw[e2] at he;exact absurd he (by decide))
    have q31:((s[0].toNat:Int)==12)=false:=beq_eq_false_iff_ne.2 (fun e=>by have e2:s[0]=12:=UInt8.toNat_inj.1 (by rw[show ((12:UInt8).toNat)=12 from rfl];omega);rw[e2] at he;exact absurd he (by decide))
    have q41:((s[0].toNat:Int)==13)=false:=beq_eq_false_iff_ne.2 (fun e=>by have e2:s[0]=13:=UInt8.toNat_inj.1 (by rw[show ((13:UInt8).toNat)=13 from rfl];omega);rw[e2] at he;exact absurd he (by decide))
    have q51:((s[0].toNat:Int)==39)=false:=beq_eq_false_iff_ne.2 (fun e=>by have e2:s[0]=39:=UInt8.toNat_inj.1 (by rw[show ((39:UInt8).toNat)=39 from rfl];omega);rw[e2] at he;exact absurd he (by decide))
    have q61:((s[0].toNat:Int)==92)=false:=beq_eq_false_iff_ne.2 (fun e=>by have e2:s[0]=92:=UInt8.toNat_inj.1 (by rw[show ((92:UInt8).toNat)=92 from rfl];omega);rw[e2] at he;exact absurd he (by decide))
    obtain ⟨c9,w9,cv9,rd9,hb9⟩:=HCV.out w3
    have HR9:=hid rd9
    have HB9:=hid (HB3.out.trans (hb9.mono HB3.out.size))
    clear hhd hn hsl hdt hsz he HCV htk rd9 hb9 hpc
    refine wp_loop_rounds 8 ?_
    rw[rounds_succ];go_wp2
    rw[rounds_succ];go_wp2
    rw[rounds_succ];go_wp2
    rw[rounds_succ];go_wp2
    rw[rounds_succ];go_wp2
    rw[rounds_succ];go_wp2
    rw[rounds_succ];go_wp2
    rw[rounds_succ];go_wp2
    go_ret2
    (try rw[HN.out])
    rw[HPC.out,HGO.out]
    exact ⟨_,_,rfl,HR9.out,HB9.out⟩
 ·have gn:((n:Int)==1)=false:=beq_eq_false_iff_ne.2 (by omega)
  have hlong:128≤s[0].toNat:=by
    have hd:s.data.toList.drop 0=s.data.toList:=List.drop_zero
    exact sgn_long s.data.toList 0 n h0 (by rw[hd];exact hn) (by omega)
  have hpc:pieceM s.data.toList n=s.data.toList.take n:=by
    have he:escN s[0]=0:=by
      by_cases he:escN s[0]=0
      ·exact he
      ·exfalso
       rcases escN_cases he with e|e|e|e|e|e|e<;>rw[e] at hlong<;>revert hlong<;>decide
    rw[hhd,pieceM_cons,if_neg hz,if_neg (by simp[he]),if_neg (by omega)]
  have hlen:(pieceM s.data.toList n).length=n:=by rw[hpc,List.length_take];omega
  have HPC:=hid hpc
  have HLN:=hid hlen
  go_wp2_with (go_at_call 86;refine (letters13_any _).mono ?_;rintro e w3 ⟨rfl,o1,o2,hb3,hlt3⟩;have HO1:=hid o1;have HO2:=hid o2;have HB3:=hid (hb0.trans (hb3.mono hb0.size));clear o1 o2 hb3)
  have f0:=HO1.out.at 0
  have g0:=HO2.out.at 0
  have f1:=HO1.out.at 1
  have g1:=HO2.out.at 1
  have f2:=HO1.out.at 2
  have g2:=HO2.out.at 2
  have f3:=HO1.out.at 3
  have g3:=HO2.out.at 3
  have f4:=HO1.out.at 4
  have g4:=HO2.out.at 4
  have f5:=HO1.out.at 5
  have g5:=HO2.out.at 5
  have f6:=HO1.out.at 6
  have g6:=HO2.out.at 6
  simp[byteCells,fromL] at f0 f1 f2 f3 f4 f5 f6
  simp[byteCells,toL] at g0 g1 g2 g3 g4 g5 g6
  obtain ⟨c9,w9,cv9,rd9,hb9⟩:=HCV.out w3
  have HR9:=hid rd9
  have HB9:=hid (HB3.out.trans (hb9.mono HB3.out.size))
  clear hhd hn hsl hdt hsz HCV hpc hlen hlong rd9 hb9
  refine wp_loop_rounds 8 ?_
  rw[rounds_succ];go_wp2
  rw[rounds_succ];go_wp2
  rw[rounds_succ];go_wp2
  rw[rounds_succ];go_wp2
  rw[rounds_succ];go_wp2
  rw[rounds_succ];go_wp2
  rw[rounds_succ];go_wp2
  rw[rounds_succ];go_wp2
  go_ret2
  (try rw[HN.out])
  rw[HLN.out,HPC.out,HGO.out]
  exact ⟨_,_,rfl,HR9.out,HB9.out⟩
end
section
open Go.RowKit
theorem pieceM_six (l:List UInt8) (n:Nat):(pieceM l n).length≤6*goOn n:=by
 have hg:=goOn_pos n
 cases l with
 | nil=>show 0≤_;omega
 | cons c t =>
   rw[pieceM_cons]
   split
   ·show 3≤_;omega
   ·split
    ·show 2≤_;omega
    ·split
     ·show 6≤_;omega
     ·rename_i h _ _
      rw[List.length_take]
      have:goOn n=n:=if_neg h
      omega
theorem sgn_in (l:List UInt8) (h:l≠[]):goOn (sgnL l)≤l.length:=by
 unfold goOn
 split
 ·cases l with
  | nil=>exact absurd rfl h
  | cons c t=>simp
 ·rename_i h0
  exact (sgnL_take rfl h0 []).2.2
def RelNm (s:ByteArray) (W wr:World) (o a:Value):Prop :=
 ∃ (k:Nat) (d:List UInt8),k≤s.size∧a=.int .i64 k∧Buf wr W.heap.size o (39 :: d)∧d.length≤6*k∧nameM s.data.toList=d++nameM (s.data.toList.drop k)∧Below W.heap.size W wr
theorem name13_any (s:ByteArray) (W:World) (hs:s.size≤1000) :
   Calls Tryz.prog 37 #[.string s] W fun e w'=>e=.returned (.string ⟨(nameT s.data.toList).toArray⟩)∧Below W.heap.size W w':=by
 have hsl:s.data.toList.length=s.size:=rfl
 unfold nameT
 go_enter Tryz.func37,Tryz.ntmps37
 go_wp2
 go_loopw [3,4] (fun o a wr=>RelNm s W wr o a) (fun _ a _=>s.size-(intOf a).toNat)
 case atStart=>exact ⟨0,[],Nat.zero_le _,rfl,Buf.made W _ [39] rfl (by simp[maxLen]) (Nat.le_refl _),by simp,rfl,(Below.refl _ _).alloc (Nat.le_refl _) _⟩
 case round =>
   obtain ⟨k,d,hk,rfl,hbuf,hd,hput,hbel⟩:=hrel
   by_cases hlt:k<s.size
   ·have hne:s.data.toList.drop k≠[]:=fun e=>by
      have:=congrArg List.length e
      rw[List.length_drop,List.length_nil] at this
      omega
    have hin:=sgn_in _ hne
    rw[List.length_drop,hsl] at hin
    have hstep:nameM (s.data.toList.drop k)=pieceM (s.data.toList.drop k) (sgnL (s.data.toList.drop k))++nameM (s.data.toList.drop (k+goOn (sgnL (s.data.toList.drop k)))):=by
      rw[← List.drop_drop]
      cases hq:s.data.toList.drop k with
      | nil=>exact absurd hq hne
      | cons c t=>rw[nameM_cons]
    have hpl:=pieceM_six (s.data.toList.drop k) (sgnL (s.data.toList.drop k))
    have hgp:=goOn_pos (sgnL (s.data.toList.drop k))
    have HS:=hid (fun w=>sign13_any (s.extract k s.size) w (by rw[ByteArray.size_extract];omega) (by rw[ByteArray.size_extract];omega))
    unfold SgnEnd at HS
    rw[tail13 s k hk] at HS
    have HP:=hid (hput.trans (by rw[hstep]))
    clear hput hstep hne hsl
    generalize pieceM (s.data.toList.drop k) (sgnL (s.data.toList.drop k))=P at *
    generalize goOn (sgnL (s.data.toList.drop k))=n at *
    generalize hL:P.length=L at *
    have HL:=hid hL
    clear hL
    have HBF:=hid hbuf
    have HBL:=hid hbel
    clear hbuf hbel
    go_wp2_with (first
      | (go_at_call 58
         go_must (
           refine (HS.out _).mono ?_
           rintro e w3 ⟨g3,c3,rfl,rd3,hb3⟩
           have hbuf3:=HBF.out.stay hb3 (Nat.le_refl _)
           have hb3':=HBL.out.trans (hb3.mono HBL.out.size)
           have hz3:=hb3'.size))
      | (at_builtin
         go_must (
           refine buf_append _ rfl (.tmp 19) (.tmp 20) rfl W.heap.size _ (39 :: d) rfl hbuf3 _ _ L _ P rfl rd3 (by simp only [List.length_cons];omega) hz3 ?_
           intro v4 w4 hbuf4 hb4
           have hb4':=hb3'.trans hb4)))
    go_roundw
    case rel=>exact ⟨k+n,d++P,by omega,by go_num,hbuf4,(by rw[List.length_append,HL.out];omega),(by rw[HP.out,List.append_assoc]),hb4'⟩
    case measure=>simp[intOf];omega
   ·have hke:k=s.size:=by omega
    have hout:nameM s.data.toList=d:=by
      rw[hput,List.drop_of_length_le (by rw[hsl,hke];exact Nat.le_refl _)]
      show d++[]=d
      rw[List.append_nil]
    have HO:=hid hout
    have hltI:¬ (k:Int)<s.size:=by omega
    have hbuf3:=hbuf.stay (hbel.mono (Nat.le_refl _) |> fun _=>below1 wr (.cells #[.int .u8 39] 5)) (Nat.le_refl _)
    have rd3:=lit_rd wr #[.int .u8 39] [39] rfl
    have hz3:=Nat.le_trans hbel.size (below1 wr (.cells #[.int .u8 39] 5)).size
    have HB3:=hid (hbel.alloc hbel.size (.cells #[.int .u8 39] 5))
    clear hput hout hbel hsl hke
    go_wp2_with (first
      | (at_builtin
         go_must (
           refine buf_append _ rfl (.tmp 25) (.tmp 26) rfl W.heap.size _ (39 :: d) rfl hbuf3 _ _ 1 _ [39] rfl rd3 (by simp only [List.length_cons];omega) hz3 ?_
           intro v4 w4 hbuf4 hb4
           have cv4:=hbuf4.conv
           have HB4:=hid (HB3.out.trans hb4)
           clear hbuf4 hb4)))
    go_ret
    rw[HO.out]
    exact ⟨rfl,HB4.out⟩
end
section
open Go.RowKit
def wtP (l:List Pst):Nat:=(l.map fun s=>s.name.length+1).sum
theorem name_le (l:List UInt8):∀ (f:Nat) (m:List UInt8),m.length≤f→(nameM m).length≤6*m.length
 | _,[],_=>by simp[nameM,nameGo]
 | 0,_ :: _,h=>by simp at h
 | f+1,c :: t,h=>by
   have hp:=pieceM_six (c :: t) (sgnL (c :: t))
   have hg:=goOn_pos (sgnL (c :: t))
   have hi:=sgn_in (c :: t) (by simp)
   have ih:=name_le l f ((c :: t).drop (goOn (sgnL (c :: t)))) (by rw[List.length_drop];simp at h ⊢;omega)
   rw[List.length_drop] at ih
   rw[nameM_cons,List.length_append]
   omega
theorem step_len (s:Pst) (h:rightB s=true):(stepT s).length≤20*(s.name.length+1):=by
 unfold stepT
 cases hn:s.named
 ·obtain ⟨_,h1,h2⟩:=right_index h hn
  have:=digN_len 15 s.index.toNat (by simp;omega)
  rw[if_neg (by decide)]
  simp
  omega
 ·have:=name_le [] s.name.length s.name (Nat.le_refl _)
  rw[if_pos rfl]
  unfold nameT
  simp
  omega
theorem flat_le:∀ l:List Pst,l.all rightB=true→(l.flatMap stepT).length≤20*wtP l
 | [],_=>Nat.zero_le _
 | s :: l,h=>by
   simp only [List.all_cons,Bool.and_eq_true] at h
   have h1:=step_len s h.1
   have h2:=flat_le l h.2
   have e:(s :: l).flatMap stepT=stepT s++l.flatMap stepT:=rfl
   have e2:wtP (s :: l)=s.name.length+1+wtP l:=by unfold wtP;simp
   rw[e,List.length_append,e2]
   omega
theorem wt_take (l:List Pst):∀ k,wtP (l.take k)≤wtP l:=by
 induction l with
 | nil=>intro k;simp[wtP]
 | cons s l ih =>
   intro k
   cases k with
   | zero=>simp[wtP]
   | succ k =>
     have:=ih k
     have e1:wtP ((s :: l).take (k+1))=s.name.length+1+wtP (l.take k):=by unfold wtP;simp
     have e2:wtP (s :: l)=s.name.length+1+wtP l:=by unfold wtP;simp
     omega
theorem wt_length:∀ l:List Pst,l.length≤wtP l
 | []=>Nat.zero_le _
 | s :: l=>by
   have:=wt_length l
   have e2:wtP (s :: l)=s.name.length+1+wtP l:=by unfold wtP;simp
   simp only [List.length_cons]
   omega
theorem wt_in {l:List Pst} {i:Nat} {s:Pst} (h:l[i]?=some s):s.name.length+1≤wtP l:=by
 induction l generalizing i with
 | nil=>cases h
 | cons a l ih =>
   have e2:wtP (a :: l)=a.name.length+1+wtP l:=by unfold wtP;simp
   cases i with
   | zero =>
     have:a=s:=by simpa using h
     subst this
     omega
   | succ i =>
     have:=ih (i:=i) (by simpa using h)
     omega
theorem join13 (x y:List UInt8):(⟨x.toArray⟩:ByteArray)++(((⟨#[91]⟩:ByteArray)++⟨y.toArray⟩)++⟨#[93]⟩)=⟨(x++91 :: (y++[93])).toArray⟩:=by
 apply ByteArray.ext
 simp
theorem take_all {l:List Pst} {k:Nat} (hk:k<l.length):(l.take (k+1)).all rightB=((l.take k).all rightB&&rightB l[k]):=by
 rw[List.take_succ_eq_append_getElem hk,List.all_append]
 simp
theorem take_flat {l:List Pst} {k:Nat} (hk:k<l.length):(l.take (k+1)).flatMap stepT=(l.take k).flatMap stepT++stepT l[k]:=by
 rw[List.take_succ_eq_append_getElem hk,List.flatMap_append]
 simp
theorem all_not {l:List Pst} {k:Nat} (hk:k<l.length) (h:¬ rightB l[k]=true):putP l=[]:=by
 unfold putP
 rw[if_neg]
 intro ha
 exact h (List.all_eq_true.1 ha _ (List.getElem_mem hk))
def RelPt (W:World) (l:List Pst) (s i:Value) (wr:World):Prop :=
 ∃ k:Nat,k≤l.length∧i=.int .i64 k∧(l.take k).all rightB=true∧s=.string ⟨(36 :: (l.take k).flatMap stepT).toArray⟩∧Below W.heap.size W wr
theorem put13_any (l:List Pst) (A:Option Addr) (n c:Nat) (W:World) (hx:RdP W A n l) (hw:wtP l≤1000) :
   Calls Tryz.prog 16 #[.slice A n c] W fun e w'=>e=.returned (.string ⟨(putP l).toArray⟩)∧Below W.heap.size W w':=by
 have hl:l.length=n:=hx.1
 have HX:=hid hx
 clear hx
 go_enter Tryz.func16,Tryz.ntmps16
 go_wp2
 go_loopw [3,8] (fun s i wr=>RelPt W l s i wr) (fun _ i _=>l.length-(intOf i).toNat)
 case atStart=>exact ⟨0,Nat.zero_le _,rfl,rfl,rfl,Below.refl _ _⟩
 case round =>
   obtain ⟨k,hk,rfl,hr,rfl,hb⟩:=hrel
   have hk9:(k:Int)≤1000:=by have:=wt_length l;omega
   by_cases hlt:k<l.length
   ·have hltI : (k:Int)<n:=by omega
    have hX2:=HX.out.stay hb
    obtain ⟨a,rfl,ha,hc⟩:=hX2.2 (by omega)
    obtain ⟨s0,s1,s2⟩:=hc k l[k] (List.getElem?_eq_getElem hlt)
    have HTA:=hid (take_all hlt)
    have HTF:=hid (take_flat hlt)
    have HNO:=hid (fun h=>all_not hlt h)
    have hwn:=wt_in (List.getElem?_eq_getElem hlt)
    have hsz:=flat_le (l.take k) hr
    have hwk:=wt_take l k
    generalize hsk:l[k]=sk at *
    have HR:=hid (fun w=>rright13_any sk w (by unfold maxLen;omega))
    unfold stpV at HR
    have o1:=Own.fresh wr 86 #[.bool sk.named,.string ⟨sk.name.toArray⟩,.int .i64 sk.index]
    have hbA:=hb.trans ((below1 wr (.cells #[.bool sk.named,.string ⟨sk.name.toArray⟩,.int .i64 sk.index] 86)).mono hb.size)
    have HO1:=hid o1
    have HBA:=hid hbA
    have hS:(⟨(36 :: (l.take k).flatMap stepT).toArray⟩:ByteArray).size≤30000:=by
      show (36 :: (l.take k).flatMap stepT).length≤30000
      rw[List.length_cons]
      omega
    clear hsk hc hX2 o1 hbA hsz hwk
    by_cases hrs:rightB sk=true
    ·rw [hrs] at HR HTA
     cases hnm:sk.named
     ·obtain ⟨hq0,h1,h2⟩:=right_index hrs hnm
      clear hq0
      obtain ⟨v,hv⟩:=Int.eq_ofNat_of_zero_le h1
      have HD:=hid (fun w=>digits13_any v (by omega) w)
      have hN:(⟨(digN v).toArray⟩:ByteArray).size≤16:=digN_len 15 v (by simp;omega)
      have HJ:=hid (show (⟨(36 :: (l.take k).flatMap stepT).toArray⟩:ByteArray)++(((⟨#[91]⟩:ByteArray)++⟨(digN v).toArray⟩)++⟨#[93]⟩)=⟨(36 :: (l.take (k+1)).flatMap stepT).toArray⟩ by
        rw[join13,HTF.out]
        unfold stepT
        rw[hnm,if_neg (by decide),hv,Int.toNat_natCast]
        rfl)
      rw[hnm,hv] at HO1
      rw[hnm,hv] at HR
      rw[hnm,hv] at HBA
      clear hrs h1 h2 HTF
      generalize (⟨(36 :: (l.take k).flatMap stepT).toArray⟩:ByteArray)=S1 at *
      generalize (⟨(digN v).toArray⟩:ByteArray)=N1 at *
      rw[hnm] at s0
      rw[hv] at s2
      clear hnm hv
      go_wp2_with (first
        | (go_at_call 36
           go_must (
             refine (HR.out _).mono ?_
             rintro e w4 ⟨rfl,hb4⟩
             have o4:=HO1.out.stay hb4 HO1.out.inside
             have d0:w4.cell? ⟨wr.heap.size,0,none⟩=some (.bool false):=o4.at 0
             have d2:w4.cell? ⟨wr.heap.size,2,none⟩=some (.int .i64 v):=o4.at 2
             have HB4:=hid (HBA.out.trans (hb4.mono HBA.out.size))
             clear hb4 o4))
        | (go_at_call 38
           go_must (
             refine (HD.out _).mono ?_
             rintro e w5 ⟨rfl,hb5⟩
             have HB5:=hid (HB4.out.trans (hb5.mono HB4.out.size))
             clear hb5)))
      go_roundw
      case rel=>exact ⟨k+1,hlt,by go_num,by rw[HTA.out,hr];rfl,congrArg Value.string HJ.out,HB5.out⟩
      case measure=>simp[intOf];omega
     ·have HD := hid (fun w=>name13_any ⟨sk.name.toArray⟩ w (by show sk.name.length≤1000;omega))
      rw[show (⟨sk.name.toArray⟩:ByteArray).data.toList=sk.name from rfl] at HD
      have hN:(⟨(nameT sk.name).toArray⟩:ByteArray).size≤10000:=by
        show (nameT sk.name).length≤10000
        have:=name_le [] sk.name.length sk.name (Nat.le_refl _)
        unfold nameT
        simp
        omega
      have HJ:=hid (show (⟨(36 :: (l.take k).flatMap stepT).toArray⟩:ByteArray)++(((⟨#[91]⟩:ByteArray)++⟨(nameT sk.name).toArray⟩)++⟨#[93]⟩)=⟨(36 :: (l.take (k+1)).flatMap stepT).toArray⟩ by
        rw[join13,HTF.out]
        unfold stepT
        rw[hnm,if_pos rfl]
        rfl)
      rw[hnm] at HO1
      rw[hnm] at HR
      rw[hnm] at HBA
      clear hrs HTF
      generalize (⟨(36 :: (l.take k).flatMap stepT).toArray⟩:ByteArray)=S1 at *
      generalize (⟨(nameT sk.name).toArray⟩:ByteArray)=N1 at *
      rw[hnm] at s0
      clear hnm hwn
      generalize (⟨sk.name.toArray⟩:ByteArray)=nm at *
      generalize sk.index=ix at *
      go_wp2_with (first
        | (go_at_call 36
           go_must (
             refine (HR.out _).mono ?_
             rintro e w4 ⟨rfl,hb4⟩
             have o4:=HO1.out.stay hb4 HO1.out.inside
             have d0:w4.cell? ⟨wr.heap.size,0,none⟩=some (.bool true):=o4.at 0
             have d1:w4.cell? ⟨wr.heap.size,1,none⟩=some (.string nm):=o4.at 1
             have HB4:=hid (HBA.out.trans (hb4.mono HBA.out.size))
             clear hb4 o4))
        | (go_at_call 37
           go_must (
             refine (HD.out _).mono ?_
             rintro e w5 ⟨rfl,hb5⟩
             have HB5:=hid (HB4.out.trans (hb5.mono HB4.out.size))
             clear hb5)))
      go_roundw
      case rel=>exact ⟨k+1,hlt,by go_num,by rw[HTA.out,hr];rfl,congrArg Value.string HJ.out,HB5.out⟩
      case measure=>simp[intOf];omega
    ·have HP0:=hid (HNO.out hrs)
     rw[Bool.eq_false_iff.2 hrs] at HR
     clear hrs HTF HTA
     go_wp2_with (go_at_call 36;refine (HR.out _).mono ?_;rintro e w4 ⟨rfl,hb4⟩;have HB4:=hid (HBA.out.trans (hb4.mono HBA.out.size));clear hb4)
     go_ret
     rw[HP0.out]
     exact ⟨rfl,HB4.out⟩
   ·have hltI:¬ (k:Int)<n:=by omega
    have ht:l.take k=l:=List.take_of_length_le (by omega)
    have HP0:=hid (show putP l=36 :: l.flatMap stepT by unfold putP;rw[if_pos (by rw[← ht];exact hr)])
    rw[ht]
    clear hr
    go_wp2
    go_ret
    rw[HP0.out]
    exact ⟨rfl,hb⟩
end
section
open Go.RowKit
def MaxQ (v:Int):Prop:=-9007199254740991≤v∧v≤9007199254740991
end
section
open Go.RowKit
def numT (v:Int):List UInt8:=if v<0 then 45 :: digN (-v).toNat else digN v.toNat
def selT (y:Sel):List UInt8 :=
 if goodB y=false then [] else if y.kind=0 then nameT y.name.data.toList else if y.kind=1 then [42] else if y.kind=2 then numT y.index
 else (if y.hs then numT y.start else [])++58 :: ((if y.he then numT y.en else [])++(if y.stride=1 then [] else 58 :: numT y.stride))
def selsT:List Sel→List UInt8
 | []=>[]
 | [y]=>selT y
 | y :: z :: t=>selT y++44 :: selsT (z :: t)
def sgmT (x:Sgm):List UInt8:=(if x.deep then [46,46] else [])++91 :: (selsT x.sels++[93])
def putQ (xs:List Sgm):List UInt8:=if rightQ xs then 36 :: xs.flatMap sgmT else []
theorem fitsB_max {v:Int}(h:fitsB v=true):MaxQ v:=of_decide_eq_true (p:=-9007199254740991≤v∧v≤9007199254740991) h
theorem max_fitsB {v:Int}(h:MaxQ v):fitsB v=true:=by unfold fitsB;rw[decide_eq_true_eq];exact h
theorem good_cases {y:Sel} (h:goodB y=true):y=sqA∨(∃ m,y=sqN m∧badU m = -1)∨(∃ v,y=sqI v∧MaxQ v) ∨ ∃ a b c,y=sqS a b c∧MaxQ (a.getD 0)∧MaxQ (b.getD 0)∧MaxQ c:=by
 obtain ⟨kind,name,index,start,en,hs,he,stride⟩:=y
 unfold goodB at h
 dsimp only at h
 split at h
 ·cases h
 rename_i h1
 split at h
 ·cases h
 rename_i h2
 split at h
 ·cases h
 rename_i h3
 split at h
 ·cases h
 rename_i h4
 simp only [Bool.and_eq_true,decide_eq_true_eq] at h
 obtain ⟨⟨⟨⟨f1,f2⟩,f3⟩,f4⟩,f5⟩:=h
 have nm:(⟨name.data.toList.toArray⟩:ByteArray)=name:=by simp
 by_cases k0:kind=0
 ·subst k0
  have hi:index=0:=by
    rcases Int.eq_nat_or_neg index with _|_<;>(by_cases hi:index=0;exact hi;exact absurd (.inr ⟨by decide,hi⟩) h2)
  have h3':¬ (start≠0∨en≠0∨stride≠0∨hs=true∨he=true):=fun e=>h3 ⟨by decide,e⟩
  have g1:start=0:=by by_cases e:start=0;exact e;exact absurd (.inl e) h3'
  have g2:en=0:=by by_cases e:en=0;exact e;exact absurd (.inr (.inl e)) h3'
  have g3:stride=0:=by by_cases e:stride=0;exact e;exact absurd (.inr (.inr (.inl e))) h3'
  have g4:hs=false:=by cases hs;rfl;exact absurd (.inr (.inr (.inr (.inl rfl)))) h3'
  have g5:he=false:=by cases he;rfl;exact absurd (.inr (.inr (.inr (.inr rfl)))) h3'
  subst hi g1 g2 g3 g4 g5
  exact .inr (.inl ⟨name.data.toList,by unfold sqN;rw[nm],f5⟩)
 have hn:name=⟨#[]⟩:=by
   have:name.data.toList=[]:=by by_cases e:name.data.toList=[];exact e;exact absurd (.inl ⟨k0,e⟩) h2
   rw[← nm,this]
 subst hn
 by_cases k2:kind=2
 ·subst k2
  have h3':¬ (start≠0∨en≠0∨stride≠0∨hs=true∨he=true):=fun e=>h3 ⟨by decide,e⟩
  have g1:start=0:=by by_cases e:start=0;exact e;exact absurd (.inl e) h3'
  have g2:en=0:=by by_cases e:en=0;exact e;exact absurd (.inr (.inl e)) h3'
  have g3:stride=0:=by by_cases e:stride=0;exact e;exact absurd (.inr (.inr (.inl e))) h3'
  have g4:hs=false:=by cases hs;rfl;exact absurd (.inr (.inr (.inr (.inl rfl)))) h3'
  have g5:he=false:=by cases he;rfl;exact absurd (.inr (.inr (.inr (.inr rfl)))) h3'
  subst g1 g2 g3 g4 g5
  exact .inr (.inr (.inl ⟨index,rfl,fitsB_max f1⟩))
 have hi:index=0:=by by_cases e:index=0;exact e;exact absurd (.inr ⟨k2,e⟩) h2
 subst hi
 by_cases k3:kind=3
 ·subst k3
  refine .inr (.inr (.inr ⟨if hs then some start else none,if he then some en else none,stride,?_,?_,?_,fitsB_max f4⟩))
  ·cases hs<;>cases he
   ·have g1:start=0:=by by_cases e:start=0;exact e;exact absurd (.inl ⟨rfl,e⟩) h4
    have g2:en=0:=by by_cases e:en=0;exact e;exact absurd (.inr ⟨rfl,e⟩) h4
    subst g1 g2;rfl
   ·have g1:start=0:=by by_cases e:start=0;exact e;exact absurd (.inl ⟨rfl,e⟩) h4
    subst g1;rfl
   ·have g2:en=0:=by by_cases e:en=0;exact e;exact absurd (.inr ⟨rfl,e⟩) h4
    subst g2;rfl
   ·rfl
  ·cases hs
   ·show MaxQ 0;unfold MaxQ;omega
   ·exact fitsB_max f2
  ·cases he
   ·show MaxQ 0;unfold MaxQ;omega
   ·exact fitsB_max f3
 have k1:kind=1:=by omega
 subst k1
 have h3':¬ (start≠0∨en≠0∨stride≠0∨hs=true∨he=true):=fun e=>h3 ⟨by decide,e⟩
 have g1:start=0:=by by_cases e:start=0;exact e;exact absurd (.inl e) h3'
 have g2:en=0:=by by_cases e:en=0;exact e;exact absurd (.inr (.inl e)) h3'
 have g3:stride=0:=by by_cases e:stride=0;exact e;exact absurd (.inr (.inr (.inl e))) h3'
 have g4:hs=false:=by cases hs;rfl;exact absurd (.inr (.inr (.inr (.inl rfl)))) h3'
 have g5:he=false:=by cases he;rfl;exact absurd (.inr (.inr (.inr (.inr rfl)))) h3'
 subst g1 g2 g3 g4 g5
 exact .inl rfl
theorem good_name {m:List UInt8} (h:badU m = -1):goodB (sqN m)=true:=by
 unfold goodB sqN
 dsimp only
 rw[if_neg (by omega),if_neg (by simp),if_neg (by simp),if_neg (by simp)]
 simp[fits_zero,h]
theorem good_index {v:Int} (h:MaxQ v):goodB (sqI v)=true:=by
 unfold goodB sqI
 dsimp only
 rw[if_neg (by omega),if_neg (by simp),if_neg (by simp),if_neg (by simp)]
 simp[fits_zero,max_fitsB h,show badU [] = -1 from rfl]
theorem good_slice {a b:Option Int} {c:Int} (ha:MaxQ (a.getD 0)) (hb:MaxQ (b.getD 0)) (hc:MaxQ c):goodB (sqS a b c)=true:=by
 unfold goodB sqS
 dsimp only
 rw[if_neg (by omega),if_neg (by simp),if_neg (by simp),if_neg (by cases a<;>cases b<;>simp)]
 simp[fits_zero,max_fitsB ha,max_fitsB hb,max_fitsB hc,show badU [] = -1 from rfl]
theorem digN_val (v:Nat):valD (digN v) 0=v:=by
 induction v using digN.induct with
 | case1 n h=>rw[digN_one n h];show 0*10+((UInt8.ofNat (48+n)).toNat-48)=n;rw[dig_toNat n h];omega
 | case2 n h ih=>rw[digN_more n h,val_snoc,ih,dig_toNat _ (by omega)];omega
theorem digN_16 {v:Nat}(h:v≤9007199254740991):(digN v).length≤16:=digN_len 15 v (by omega)
theorem intD_dig (m:Nat) {v:Nat} (hv:v≤9007199254740991) (rest:List UInt8) (hr:runD rest=0):intD m (digN v++rest) (runD (digN v++rest))=some (if m=1 then -(v:Int) else (v:Int),m+(digN v).length):=by
 have hrun:runD (digN v++rest)=(digN v).length:=by rw[runD_app _ _ (digN_all v),hr,Nat.add_zero]
 have h1:=digN_pos v
 have h16:=digN_16 hv
 rw[hrun]
 unfold intD
 rw[if_neg (by omega),List.take_left,digN_val,if_neg (by omega)]
theorem nrQ_num {v:Int} (hv:MaxQ v) (rest:List UInt8) (hr:runD rest=0):nrQ (numT v++rest)=some (v,(numT v).length):=by
 unfold MaxQ at hv
 unfold numT
 by_cases h0:v<0
 ·rw [if_pos h0]
  obtain ⟨k,hk⟩:∃ k:Nat,(-v).toNat=k:=⟨_,rfl⟩
  rw[hk]
  have hm:minB (45 :: digN k++rest)=1:=rfl
  have hd:(45 :: digN k++rest).drop 1=digN k++rest:=rfl
  have hh:(digN k++rest).head?≠some 48:=by
    intro e
    have hp:=digN_pos k
    rw[head_app (by intro e;rw[e] at hp;simp at hp)] at e
    have:=digN_head k e
    omega
  unfold nrQ
  rw[hm,hd,if_neg hh,intD_dig 1 (by omega) rest hr]
  show some (-(k:Int),1+(digN k).length)=some (v,(digN k).length+1)
  rw[Nat.add_comm,show -(k:Int)=v by omega]
 ·rw [if_neg h0]
  obtain ⟨k,hk⟩:∃ k:Nat,v.toNat=k:=⟨_,rfl⟩
  rw[hk]
  have hp:=digN_pos k
  have hne:digN k≠[]:=by intro e;rw[e] at hp;simp at hp
  have hall:=digN_all k
  have hm:minB (digN k++rest)=0:=by
    refine if_neg ?_
    rw[head_app hne]
    intro e
    cases hc:digN k with
    | nil=>exact hne hc
    | cons c t =>
      rw[hc] at e hall
      obtain rfl:=Option.some.inj e
      have:=hall 45 (by simp)
      exact absurd this (by decide)
  unfold nrQ
  rw[hm,List.drop_zero]
  by_cases h48:(digN k++rest).head?=some 48
  ·rw[if_pos h48]
   rw[head_app hne] at h48
   have:=digN_head k h48
   subst this
   show some (0,1)=some (v,(digN 0).length)
   rw[digN_one 0 (by omega),show v=0 by omega]
   rfl
  ·rw[if_neg h48,intD_dig 0 (by omega) rest hr]
   show some ((k:Int),0+(digN k).length)=some (v,(digN k).length)
   rw[Nat.zero_add,show (k:Int)=v by omega]
def NoNum (l:List UInt8):Prop:=∀ c,l.head?=some c→c≠45∧digB c=false
theorem NoNum.run {l:List UInt8} (h:NoNum l):runD l=0:=by
 cases l with
 | nil=>rfl
 | cons c t=>exact if_neg (by rw[(h c rfl).2];decide)
theorem NoNum.none {l:List UInt8} (h:NoNum l):nrQ l=none:=by
 have hm:minB l=0:=if_neg (fun e=>(h 45 e).1 rfl)
 unfold nrQ
 rw[hm,List.drop_zero,if_neg (fun e=>absurd (h 48 e).2 (by decide))]
 unfold intD
 rw[if_pos (.inl h.run)]
theorem noNum_cons {c:UInt8}(t:List UInt8)(h1:c≠45)(h2:digB c=false):NoNum (c :: t):=fun d hd=>by obtain rfl:=Option.some.inj hd;exact ⟨h1,h2⟩
theorem EndS.noNum {l:List UInt8} (h:EndS l):NoNum l:=fun c hc=>by
 rcases h with h|h<;>(rw[h] at hc;obtain rfl:=Option.some.inj hc;exact ⟨by decide,by decide⟩)
theorem EndS.skB {l:List UInt8} (h:EndS l):skB l=l:=by
 rcases h with h|h<;>exact skB_id (runB_head h (by decide))
theorem EndS.ne58 {l:List UInt8} (h:EndS l):l.head?≠some 58:=by
 rcases h with h|h<;>(rw[h];decide)
theorem num_head (v:Int) (rest:List UInt8):∃ c t,numT v++rest=c :: t∧(c=45∨digB c=true):=by
 unfold numT
 by_cases h0:v<0
 ·rw[if_pos h0];exact ⟨45,_,rfl,.inl rfl⟩
 ·rw[if_neg h0]
  have hp:=digN_pos v.toNat
  have hall:=digN_all v.toNat
  cases hc:digN v.toNat with
  | nil=>rw[hc] at hp;simp at hp
  | cons c t=>rw[hc] at hall;exact ⟨c,_,rfl,.inr (hall c (by simp))⟩
theorem numH_num (v:Int) (rest:List UInt8):NumH (numT v++rest):=by
 obtain ⟨c,t,h1,h2⟩:=num_head v rest
 exact ⟨c,by rw[h1];rfl,h2⟩
theorem skB_num (v:Int)(rest:List UInt8):skB (numT v++rest)=numT v++rest:=skB_id (numH_num v rest).run
theorem skB_colon (t:List UInt8):skB (58 :: t)=58 :: t:=skB_id (runB_head (c:=58) rfl (by decide))
theorem intA_num {v:Int} (hv:MaxQ v) (rest:List UInt8) (hr:runD rest=0):intA (numT v++rest)=(some v,rest):=by
 rw[intA_yes (nrQ_num hv rest hr),List.drop_left]
theorem noNum_colon (t:List UInt8):NoNum (58 :: t):=noNum_cons t (by decide) (by decide)
def optT:Option Int→List UInt8
 | some v=>numT v
 | none=>[]
def tailC (c:Int)(rest:List UInt8):List UInt8:=(if c=1 then [] else 58 :: numT c)++rest
theorem tailC_no {c:Int} {rest:List UInt8} (he:EndS rest):NoNum (tailC c rest):=by
 unfold tailC
 split
 ·exact he.noNum
 ·exact noNum_colon _
theorem tailC_skB {c:Int} {rest:List UInt8} (he:EndS rest):skB (tailC c rest)=tailC c rest:=by
 unfold tailC
 split
 ·exact he.skB
 ·exact skB_colon _
theorem slcE_back (a e:Option Int) {c:Int} (hc:MaxQ c) {rest:List UInt8} (he:EndS rest):slcE a e (tailC c rest)=(sqS a e c,rest):=by
 unfold slcE tailC
 by_cases h1:c=1
 ·rw[if_pos h1]
  show (if rest.head?=some 58 then _ else (sqS a e 1,rest))=_
  rw[if_neg he.ne58,h1]
 ·rw [if_neg h1]
  have:nrQ (skB (numT c++rest))=some (c,(numT c).length):=by rw[skB_num,nrQ_num hc rest he.noNum.run]
  show (if (58 :: (numT c++rest)).head?=some 58 then (match nrQ (skB (numT c++rest)) with
    | some (v,n)=>(sqS a e v,(skB (numT c++rest)).drop n)
    | none=>(sqS a e 1,skB (numT c++rest))) else _)=_
  rw[if_pos (show (58 :: (numT c++rest)).head?=some 58 from rfl),this,skB_num]
  show (sqS a e c,(numT c++rest).drop (numT c).length)=_
  rw[List.drop_left]
theorem slcR_back (a b:Option Int) {c:Int} (hb:MaxQ (b.getD 0)) (hc:MaxQ c) {rest:List UInt8} (he:EndS rest):slcR a (optT b++tailC c rest)=(sqS a b c,rest):=by
 have ht:=tailC_no (c:=c) he
 have hs:=tailC_skB (c:=c) he
 unfold slcR
 cases b with
 | none =>
   show slcE a (intA (skB (tailC c rest))).1 (skB (intA (skB (tailC c rest))).2)=_
   rw[hs,intA_no ht.none,hs]
   exact slcE_back a none hc he
 | some v =>
   show slcE a (intA (skB (numT v++tailC c rest))).1 (skB (intA (skB (numT v++tailC c rest))).2)=_
   rw[skB_num,intA_num (v:=v) hb _ ht.run]
   show slcE a (some v) (skB (tailC c rest))=_
   rw[hs]
   exact slcE_back a (some v) hc he
theorem sng_readM (t:List UInt8):(readM 39 .plain t [] 1).map (fun p=>(p.1,(39 :: t).drop p.2))=sngR t:=by
 rw[tr_read (t.length+1) t .plain [] 1 (Nat.lt_succ_self _) (fun _ _ _ e=>by cases e) (by intro e;cases e) (fun e=>by cases e)]
 unfold sngR
 cases hq:trL (t.length+1) t with
 | none=>rfl
 | some p =>
   have he:=(trL_end _ t p hq).2.1
   show (((readQ .plain (p.1++[34]) [] 0).map (·.1)).map fun u=>(u,1+(t.length-p.2.length))).map _=(readQ .plain (p.1++[34]) [] 0).map _
   cases readQ .plain (p.1++[34]) [] 0 with
   | none=>rfl
   | some u =>
     show some (u.1,(39 :: t).drop (1+(t.length-p.2.length)))=some (u.1,p.2)
     rw[Nat.add_comm,List.drop_succ_cons,← he]
theorem readM_sign (m:UInt8) (l:List UInt8):∀ (sg lf:Int) (p:List UInt8) (k j:Nat),sgnGo sg lf l k=j→j≠0 → ∀ rest acc n,
   readM m (.sign sg lf p) (l.take (j-k)++rest) acc n=readM m .plain rest (acc++p++l.take (j-k)) (n+(j-k)):=by
 induction l with
 | nil=>intro sg lf p k j h hj;exact absurd h.symm hj
 | cons c t ih =>
   intro sg lf p k j h hj rest acc n
   have hs:=sgn_split _ _ _ _ _ h hj
   have e:j-k=(j-(k+1))+1:=by omega
   rw[e,List.take_succ_cons,List.cons_append]
   unfold sgnGo at h
   split at h
   ·rename_i hok
    split at h
    ·rename_i hz
     subst h
     rw[show k+1-(k+1)=0 by omega,List.take_zero,List.nil_append]
     rw[readM_on (st':=.plain) (e:=p++[c]) (by show stepQ (.sign sg lf p) c=_;rw[step_sign,if_pos hok,if_pos hz]) (by intro e;cases e)]
     simp
    ·rename_i hz
     have:=ih _ _ (p++[c]) _ _ h hj rest (acc++[]) (n+1)
     rw[readM_on (st':=.sign (sgU sg lf c.toNat) (lfU lf c.toNat) (p++[c])) (e:=[]) (by show stepQ (.sign sg lf p) c=_;rw[step_sign,if_pos hok,if_neg hz]) (by intro e;cases e),this]
     simp
     congr 1
     omega
   ·exact absurd h.symm hj
theorem letE_esc {c:UInt8} (h:escN c≠0):stepM 39 .esc (escN c)=some (.plain,[c]):=by
 rcases escN_cases h with rfl|rfl|rfl|rfl|rfl|rfl|rfl<;>rfl
theorem name_readM:∀ (f:Nat) (m acc rest:List UInt8) (n:Nat),m.length<f→badU m = -1→readM 39 .plain (nameM m++39 :: rest) acc n=some (acc++m,n+(nameM m).length+1)
 | 0,m,acc,rest,n,h,_=>by omega
 | f+1,[],acc,rest,n,h,_=>by
   show readM 39 .plain (39 :: rest) acc n=_
   rw[readM_done (by rw[stepM_plain,if_pos rfl])]
   rfl
 | f + 1, c :: t,acc,rest,n,h,hb=>by
   obtain ⟨h0,hd⟩:=sgn_good (c :: t) 0 0 0 stU_zero hb (.inl (by simp))
   have h0:sgnL (c :: t)≠0:=h0
   have hd:badU ((c :: t).drop (sgnL (c :: t)-0)) = -1:=hd
   rw[Nat.sub_zero] at hd
   have hon:goOn (sgnL (c :: t))=sgnL (c :: t):=if_neg h0
   rw[nameM_cons,hon]
   generalize hk:sgnL (c :: t)=k at *
   have hs:=sgnL_take hk h0 []
   have ih:=fun acc n=>name_readM f ((c :: t).drop k) acc rest n (by rw[List.length_drop];simp at h ⊢;omega) hd
   rw[List.append_assoc,List.length_append]
   have fin:∀ x:List UInt8,readM 39 .plain (pieceM (c :: t) k++x) acc n=readM 39 .plain x (acc++(c :: t).take k) (n+(pieceM (c :: t) k).length):=by
     intro x
     rw[pieceM_cons,if_neg h0]
     by_cases he:escN c≠0
     ·rw[if_pos he]
      have hk1:k=1:=by rw[← hk];exact sgn_small c t (by rcases escN_cases he with rfl|rfl|rfl|rfl|rfl|rfl|rfl<;>decide)
      subst hk1
      show readM 39 .plain (92 :: escN c :: x) acc n=_
      rw[readM_on (st':=.esc) (e:=[]) (by rfl) (by intro e;cases e),readM_on (st':=.plain) (e:=[c]) (letE_esc he) (by intro e;cases e)]
      simp
     rw[if_neg he]
     by_cases h2:c.toNat<32
     ·rw [if_pos h2]
      have hk1:k=1:=by rw[← hk];exact sgn_small c t (by omega)
      subst hk1
      show readM 39 .plain (92 :: 117 :: 48 :: 48 :: lowB (c.toNat/16) :: lowB (c.toNat%16) :: x) acc n=_
      have e1:=hex_low (c.toNat/16) (by omega)
      have e2:=hex_low (c.toNat%16) (by omega)
      have ev:(((c.toNat/16:Nat):Int))*16+((c.toNat%16:Nat):Int)=c.toNat:=by omega
      rw [readM_on (st':=.esc) (e:=[]) (by rfl) (by intro e;cases e),readM_on (st':=.hex 0 0) (e:=[]) (by rfl) (by intro e;cases e),readM_on (st':=.hex 1 0) (e:=[]) (by rfl) (by intro e;cases e),readM_on (st':=.hex 2 0) (e:=[]) (by rfl) (by intro e;cases e),
        readM_on (st':=.hex 3 ((c.toNat/16:Nat):Int)) (e:=[]) (by show stepQ (.hex 2 0) _=_;rw[step_hex _ _ _ _ e1,if_neg (by omega),if_neg (by omega)];simp) (by intro e;cases e),
        readM_on (st':=.plain) (e:=[c]) (by show stepQ (.hex 3 _) _=_;rw[step_hex _ _ _ _ e2,ev,if_neg (by omega),if_pos rfl,if_neg (by omega),ofB_small c (by omega)]) (by intro e;cases e)]
      simp[ctlN]
     rw[if_neg h2]
     have hq:c≠39:=fun e=>by subst e;exact he (by decide)
     have hbs:c≠92:=fun e=>by subst e;exact he (by decide)
     rw[sgn_cons] at hk
     split at hk
     ·rename_i hok
      split at hk
      ·rename_i hz
       subst hk
       show readM 39 .plain (c :: x) acc n=_
       rw[readM_on (st':=.plain) (e:=[c]) (by rw[stepM_plain,if_neg hq,if_neg hbs,if_neg h2,if_pos hok,if_pos hz]) (by intro e;cases e)]
       simp
      ·rename_i hz
       have hs2:=sgn_split _ _ _ _ _ hk h0
       have e:k=(k-1)+1:=by omega
       have hr:=readM_sign 39 t _ _ [c] _ _ hk h0 x (acc++[]) (n+1)
       rw[e,List.take_succ_cons,List.cons_append,readM_on (st':=.sign (sgU 0 0 c.toNat) (lfU 0 c.toNat) [c]) (e:=[]) (by rw[stepM_plain,if_neg hq,if_neg hbs,if_neg h2,if_pos hok,if_neg hz]) (by intro e;cases e),hr]
       simp
       congr 1
       rw[Nat.min_eq_left (by omega)]
       omega
     ·exact absurd hk.symm h0
   rw[fin,ih,List.append_assoc,List.take_append_drop]
   congr 2
   omega
theorem sng_back {m:List UInt8} (h:badU m = -1) (rest:List UInt8):sngR (nameM m++39 :: rest)=some (m,rest):=by
 rw[← sng_readM,name_readM (m.length+1) m [] rest 1 (Nat.lt_succ_self _) h]
 show some (([]:List UInt8)++m,(39 :: (nameM m++39 :: rest)).drop (1+(nameM m).length+1))=_
 rw[show 1+(nameM m).length+1=((nameM m).length+1)+1 by omega,List.drop_succ_cons,List.nil_append]
 congr 2
 rw[show (nameM m).length+1=(nameM m).length+1 from rfl,← List.drop_drop,List.drop_left]
 rfl
theorem numT_ne (v:Int) (rest:List UInt8):(numT v++rest).head?≠some 42∧(numT v++rest).head?≠some 39∧(numT v++rest).head?≠some 34∧(numT v++rest).head?≠some 58 :=
 ⟨(numH_num v rest).ne 42 (by decide) (by decide),(numH_num v rest).ne 39 (by decide) (by decide),(numH_num v rest).ne 34 (by decide) (by decide),(numH_num v rest).ne 58 (by decide) (by decide)⟩
theorem selT_slice (a b:Option Int) (c:Int) (ha:MaxQ (a.getD 0)) (hb:MaxQ (b.getD 0)) (hc:MaxQ c) (rest:List UInt8):selT (sqS a b c)++rest=optT a++58 :: (optT b++tailC c rest):=by
 unfold selT
 rw[good_slice ha hb hc,if_neg (by decide)]
 cases a<;>cases b<;>simp[sqS,tailC,optT]<;>rfl
theorem sel_back {y:Sel} (hg:goodB y=true) {rest:List UInt8} (he:EndS rest):selR (selT y++rest)=some (y,rest):=by
 rcases good_cases hg with rfl|⟨m,rfl,hm⟩|⟨v,rfl,hv⟩|⟨a,b,c,rfl,ha,hb,hc⟩
 ·have:selT sqA=[42]:=by decide +kernel
  rw[this]
  rfl
 ·have:selT (sqN m)++rest=39 :: (nameM m++39 :: rest):=by
    unfold selT
    rw[hg,if_neg (by decide),if_pos (show (sqN m).kind=0 from rfl)]
    show 39 :: (nameM m++[39])++rest=_
    simp
  rw[this]
  unfold selR
  rw[if_neg (by simp),if_pos (by rfl)]
  show (sngR (nameM m++39 :: rest)).map _=_
  rw[sng_back hm]
  rfl
 ·have:selT (sqI v)=numT v:=by
    unfold selT
    rw[hg,if_neg (by decide),if_neg (by simp[sqI]),if_neg (by simp[sqI]),if_pos (show (sqI v).kind=2 from rfl)]
    rfl
  rw[this]
  obtain ⟨n1,n2,n3,_⟩:=numT_ne v rest
  unfold selR
  rw[if_neg n1,if_neg n2,if_neg n3,intA_num hv rest he.noNum.run]
  dsimp only
  rw[he.skB,if_neg he.ne58]
  rfl
 ·rw [selT_slice a b c ha hb hc]
  have hback:=slcR_back a b hb hc he
  generalize optT b++tailC c rest=u at *
  cases a with
  | none =>
    rw[show optT none++58 :: u=58 :: u from rfl]
    unfold selR
    rw[if_neg (by simp),if_neg (by simp),if_neg (by simp),intA_no (noNum_colon u).none]
    dsimp only
    rw[skB_colon,if_pos (show (58 :: u).head?=some 58 from rfl),List.tail_cons,hback]
  | some v =>
    rw[show optT (some v)=numT v from rfl]
    obtain ⟨n1,n2,n3,_⟩:=numT_ne v (58 :: u)
    unfold selR
    rw[if_neg n1,if_neg n2,if_neg n3,intA_num (v:=v) ha (58 :: u) (noNum_colon u).run]
    dsimp only
    rw[skB_colon,if_pos (show (58 :: u).head?=some 58 from rfl),List.tail_cons,hback]
theorem sel_run {y:Sel} (hg:goodB y=true) (rest:List UInt8):runB (selT y++rest)=0:=by
 rcases good_cases hg with rfl|⟨m,rfl,hm⟩|⟨v,rfl,hv⟩|⟨a,b,c,rfl,ha,hb,hc⟩
 ·have:selT sqA=[42]:=by decide +kernel
  rw[this]
  exact runB_head (c:=42) rfl (by decide)
 ·have:selT (sqN m)++rest=39 :: (nameM m++39 :: rest):=by
    unfold selT
    rw[hg,if_neg (by decide),if_pos (show (sqN m).kind=0 from rfl)]
    show 39 :: (nameM m++[39])++rest=_
    simp
  rw[this]
  exact runB_head (c:=39) rfl (by decide)
 ·have:selT (sqI v)=numT v:=by
    unfold selT
    rw[hg,if_neg (by decide),if_neg (by simp[sqI]),if_neg (by simp[sqI]),if_pos (show (sqI v).kind=2 from rfl)]
    rfl
  rw[this]
  exact (numH_num v rest).run
 ·rw[selT_slice a b c ha hb hc]
  cases a with
  | none=>exact runB_head (c:=58) rfl (by decide)
  | some v=>exact (numH_num v _).run
theorem brk_back:∀ (f:Nat) (ys:List Sel) (acc:List Sel) (rest:List UInt8),ys≠[]→ys.length≤f→ys.all goodB=true→brkR f (selsT ys++93 :: rest) acc=some (acc++ys,rest)
 | 0,ys,acc,rest,h,hl,_=>absurd (List.eq_nil_of_length_eq_zero (by omega)) h
 | f+1,[],acc,rest,h,hl,_=>absurd rfl h
 | f + 1,[y],acc,rest,h,hl,hg=>by
   have hg:goodB y=true:=by simpa using hg
   have he:EndS (93 :: rest):=.inl rfl
   rw[brkR_on]
   show (match nxR (skB (selT y++93 :: rest)) with
     | none=>none
     | some (x,t)=>if t.head?=some 44 then brkR f t.tail (acc++[x]) else some (acc++[x],t.tail))=_
   unfold nxR
   rw[skB_id (sel_run hg _),sel_back hg he]
   show (match endP (y,93 :: rest) with
     | none=>none
     | some (x,t)=>if t.head?=some 44 then brkR f t.tail (acc++[x]) else some (acc++[x],t.tail))=_
   unfold endP
   rw[show skB (y,93 :: rest).2=93 :: rest from he.skB,if_pos he]
   rfl
 | f + 1,y :: z :: t,acc,rest,h,hl,hg=>by
   have hg':goodB y=true∧(z :: t).all goodB=true:=by rw[List.all_cons,Bool.and_eq_true] at hg;exact hg
   obtain ⟨hg1,hg2⟩:=hg'
   have he:EndS (44 :: (selsT (z :: t)++93 :: rest)):=.inr rfl
   rw[brkR_on]
   have hx:selsT (y :: z :: t)++93 :: rest=selT y++44 :: (selsT (z :: t)++93 :: rest):=by
     show selT y++44 :: selsT (z :: t)++93 :: rest=_
     simp
   rw[hx]
   unfold nxR
   rw[skB_id (sel_run hg1 _),sel_back hg1 he]
   show (match endP (y,44 :: (selsT (z :: t)++93 :: rest)) with
     | none=>none
     | some (x,t)=>if t.head?=some 44 then brkR f t.tail (acc++[x]) else some (acc++[x],t.tail))=_
   unfold endP
   rw[show skB (y,44 :: (selsT (z :: t)++93 :: rest)).2=44 :: (selsT (z :: t)++93 :: rest) from he.skB,if_pos he]
   show brkR f (selsT (z :: t)++93 :: rest) (acc++[y])=_
   rw[brk_back f (z :: t) (acc++[y]) rest (by simp) (by simp at hl ⊢;omega) hg2,List.append_assoc]
   rfl
theorem selT_pos {y:Sel} (hg:goodB y=true):1≤(selT y).length:=by
 cases h:selT y with
 | nil =>
   have:=sel_back hg (rest:=[93]) (.inl rfl)
   rw[h] at this
   have e:selR ([]++[93])=none:=by decide +kernel
   rw[e] at this
   cases this
 | cons a t=>simp
theorem selsT_len:∀ ys:List Sel,ys.all goodB=true→ys.length≤(selsT ys).length
 | [],_=>by simp
 | [y],hg=>selT_pos (by simpa using hg)
 | y :: z :: t,hg=>by
   have hg':goodB y=true∧(z :: t).all goodB=true:=by rw[List.all_cons,Bool.and_eq_true] at hg;exact hg
   have h1:=selT_pos hg'.1
   have h2:=selsT_len (z :: t) hg'.2
   show (z :: t).length+1≤(selT y++44 :: selsT (z :: t)).length
   rw[List.length_append]
   simp only [List.length_cons] at h2 ⊢
   omega
theorem sgm_back {x:Sgm} (h1:x.sels≠[]) (h2:x.sels.all goodB=true) (rest:List UInt8):sgmP (sgmT x++rest)=some (x,rest)∧runB (sgmT x++rest)=0:=by
 have hbrk:brkS (selsT x.sels++93 :: rest)=some (x.sels,rest):=by
   unfold brkS
   rw[brk_back _ x.sels [] rest h1 (by have:=selsT_len x.sels h2;rw[List.length_append];omega) h2]
   rfl
 obtain ⟨deep,ys⟩:=x
 have hbrk:brkS (selsT ys++93 :: rest)=some (ys,rest):=hbrk
 cases deep with
 | true =>
   have e:sgmT ⟨true,ys⟩++rest=46 :: 46 :: 91 :: (selsT ys++93 :: rest):=by simp[sgmT]
   rw[e]
   refine ⟨?_,runB_head (c:=46) rfl (by decide)⟩
   unfold sgmP
   rw[if_pos (by rfl),if_pos (by rfl)]
   show (brkS (selsT ys++93 :: rest)).map _=_
   rw[hbrk]
   rfl
 | false =>
   have e:sgmT ⟨false,ys⟩++rest=91 :: (selsT ys++93 :: rest):=by simp[sgmT]
   rw[e]
   refine ⟨?_,runB_head (c:=91) rfl (by decide)⟩
   unfold sgmP
   rw [if_neg (by intro e;cases hu:selsT ys++93 :: rest with
     | nil=>rw[hu] at e;cases e
     | cons a b=>rw[hu] at e;injection e with e _;exact absurd e (by decide)),if_pos (by rfl)]
   show (brkS (selsT ys++93 :: rest)).map _=_
   rw[hbrk]
   rfl
theorem sgmT_pos (x:Sgm):2≤(sgmT x).length:=by
 unfold sgmT
 rw[List.length_append]
 simp
 omega
theorem que_back:∀ (f:Nat) (xs acc:List Sgm),xs.length<f→rightQ xs=true→queR f (xs.flatMap sgmT) acc=some (acc++xs)
 | 0,xs,acc,h,_=>by omega
 | f+1,[],acc,h,_=>by rw[queR_on];simp
 | f+1,x :: t,acc,h,hr=>by
   have hr':(!x.sels.isEmpty&&x.sels.all goodB)=true∧rightQ t=true:=by unfold rightQ at hr ⊢;rw[List.all_cons,Bool.and_eq_true] at hr;exact hr
   obtain ⟨hr1,hr2⟩:=hr'
   rw[Bool.and_eq_true] at hr1
   have hne:x.sels≠[]:=fun e=>by rw[e] at hr1;exact absurd hr1.1 (by decide)
   obtain ⟨b1,b2⟩:=sgm_back hne hr1.2 (t.flatMap sgmT)
   have hp:=sgmT_pos x
   rw[queR_on,List.flatMap_cons,if_neg (fun e=>by have:=congrArg List.length e;rw[List.length_append] at this;simp at this;rw[this.1] at hp;simp at hp),skB_id b2,b1]
   show queR f (t.flatMap sgmT) (acc++[x])=_
   rw[que_back f t _ (by simp at h;omega) hr2,List.append_assoc]
   rfl
end
section
open Go.RowKit
theorem bad_small:∀ l:List UInt8,(∀ c∈l,c.toNat<128)→badU l = -1
 | [],_=>rfl
 | c :: t,h=>bad_cat (l:=[c]) (bad_one c (h c (by simp))) (bad_small t fun x hx=>h x (by simp[hx]))
theorem digB_small {c:UInt8} (h:digB c=true):c.toNat<128:=by
 have:=of_decide_eq_true h
 omega
theorem bad_digN (n:Nat):badU (digN n) = -1:=bad_small _ fun c hc=>digB_small (digN_all n c hc)
theorem bad_numT (v:Int):badU (numT v) = -1:=by
 unfold numT
 split
 ·exact bad_cat (l:=[45]) (by decide +kernel) (bad_digN _)
 ·exact bad_digN _
theorem lowB_small (n:Nat):(lowB n).toNat<128:=by
 unfold lowB
 split
 ·rename_i h
  rw[UInt8.toNat_ofNat_of_lt' (by show 48+n<256;omega)]
  omega
 split
 ·rename_i h
  rw[UInt8.toNat_ofNat_of_lt' (by show 87+n<256;omega)]
  omega
 ·decide
theorem bad_nameM:∀ (f:Nat) (m:List UInt8),m.length<f→badU m = -1→badU (nameM m) = -1
 | 0,m,h,_=>by omega
 | f+1,[],h,_=>rfl
 | f + 1,c :: t,h,hb=>by
   obtain ⟨h0,hd⟩:=sgn_good (c :: t) 0 0 0 stU_zero hb (.inl (by simp))
   have h0:sgnL (c :: t)≠0:=h0
   have hd:badU ((c :: t).drop (sgnL (c :: t)-0)) = -1:=hd
   rw[Nat.sub_zero] at hd
   have hv:=sgn_valid (c :: t) 0 0 [] 0 (sgnL (c :: t)) rfl h0 reach_nil
   rw[Nat.sub_zero,List.nil_append] at hv
   have hon:goOn (sgnL (c :: t))=sgnL (c :: t):=if_neg h0
   rw[nameM_cons,hon]
   generalize hk:sgnL (c :: t)=k at *
   have hs:=sgnL_take hk h0 []
   refine bad_cat ?_ (bad_nameM f _ (by rw[List.length_drop];simp at h ⊢;omega) hd)
   rw[pieceM_cons,if_neg h0]
   split
   ·rename_i he
    refine bad_small _ fun x hx => ?_
    rcases List.mem_cons.1 hx with rfl|hx
    ·decide
    ·rw[List.mem_singleton.1 hx]
     rcases escN_cases he with rfl|rfl|rfl|rfl|rfl|rfl|rfl<;>decide
   split
   ·refine bad_small _ fun x hx => ?_
    unfold ctlN at hx
    simp only [List.mem_cons,List.not_mem_nil,or_false] at hx
    rcases hx with rfl|rfl|rfl|rfl|rfl|rfl
    ·decide
    ·decide
    ·decide
    ·decide
    ·exact lowB_small _
    ·exact lowB_small _
   ·exact hv
theorem bad_selT (y:Sel):badU (selT y) = -1:=by
 by_cases hg:goodB y=true
 rotate_left
 ·unfold selT
  rw[if_pos (by cases h:goodB y;rfl;exact absurd h hg)]
  rfl
 rcases good_cases hg with rfl|⟨m,rfl,hm⟩|⟨v,rfl,hv⟩|⟨a,b,c,rfl,ha,hb,hc⟩
 ·decide +kernel
 ·unfold selT
  rw[hg,if_neg (by decide),if_pos (show (sqN m).kind=0 from rfl)]
  show badU (39 :: (nameM m++[39])) = -1
  exact bad_cat (l:=[39]) (by decide +kernel) (bad_cat (bad_nameM _ m (Nat.lt_succ_self _) hm) (by decide +kernel))
 ·unfold selT
  rw[hg,if_neg (by decide),if_neg (by simp[sqI]),if_neg (by simp[sqI]),if_pos (show (sqI v).kind=2 from rfl)]
  exact bad_numT _
 ·unfold selT
  rw[hg,if_neg (by decide),if_neg (by simp[sqS]),if_neg (by simp[sqS]),if_neg (by simp[sqS])]
  refine bad_cat ?_ (bad_cat (l:=[58]) (by decide +kernel) (bad_cat ?_ ?_))
  ·split
   ·exact bad_numT _
   ·rfl
  ·split
   ·exact bad_numT _
   ·rfl
  ·split
   ·rfl
   ·exact bad_cat (l:=[58]) (by decide +kernel) (bad_numT _)
theorem bad_selsT:∀ ys:List Sel,badU (selsT ys) = -1
 | []=>rfl
 | [y]=>bad_selT y
 | y :: z :: t=>bad_cat (bad_selT y) (bad_cat (l:=[44]) (by decide +kernel) (bad_selsT (z :: t)))
theorem bad_sgmT (x:Sgm):badU (sgmT x) = -1:=by
 unfold sgmT
 refine bad_cat ?_ (bad_cat (l:=[91]) (by decide +kernel) (bad_cat (bad_selsT _) (by decide +kernel)))
 split
 ·decide +kernel
 ·rfl
theorem bad_flat:∀ xs:List Sgm,badU (xs.flatMap sgmT) = -1
 | []=>rfl
 | x :: t=>by rw[List.flatMap_cons];exact bad_cat (bad_sgmT x) (bad_flat t)
theorem flat_two:∀ xs:List Sgm,xs.length≤(xs.flatMap sgmT).length
 | []=>Nat.le_refl _
 | x :: t=>by
   have h1:=sgmT_pos x
   have h2:=flat_two t
   rw[List.flatMap_cons,List.length_append]
   show t.length+1≤_
   omega
theorem queQ_put {xs:List Sgm} (h:rightQ xs=true):queQ (putQ xs)=some xs:=by
 have hb:badU (36 :: xs.flatMap sgmT) = -1:=bad_cat (l:=[36]) (by decide +kernel) (bad_flat xs)
 have hf:=flat_two xs
 unfold putQ
 rw[if_pos h,queQ_is,if_pos ⟨hb,rfl⟩]
 show queR ((36 :: xs.flatMap sgmT).length+1) (xs.flatMap sgmT) []=_
 rw[que_back _ xs [] (by show xs.length<(xs.flatMap sgmT).length+1+1;omega) h]
 rfl
end
end Go.Proofs.YtnokhgfifbkflaaGreat
