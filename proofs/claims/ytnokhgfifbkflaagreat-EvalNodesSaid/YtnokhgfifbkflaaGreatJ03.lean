/- Lemmas. -/
import Derived.Test.YtnokhgfifbkflaaGreatJ02
set_option maxRecDepth 100000
set_option maxHeartbeats 8000000
set_option linter.unusedVariables false
namespace Go.Proofs.YtnokhgfifbkflaaGreat
open Go.Lib (hid)
section
open Go.RowKit
theorem within_any (b:Nat) (sg lf:Int) (w:World) (h:Own w b 114 #[.int .i32 sg,.int .i64 lf]) :
   Calls Tryz.prog 52 #[.pointer (some ⟨b,0,none⟩)] w fun e w'=>e=.returned (.bool (decide (0<lf)))∧w=w':=by
 have c1:=h.at 1
 simp at c1
 go_enter Tryz.func52,Tryz.ntmps52
 go_wp2
 go_ret
 exact ⟨rfl,rfl⟩
theorem sign_any (b:Nat) (sg lf:Int) (w:World) (h:Own w b 114 #[.int .i32 sg,.int .i64 lf]) :
   Calls Tryz.prog 147 #[.pointer (some ⟨b,0,none⟩)] w fun e w'=>e=.returned (.int .i32 (if 0<lf then 0 else sg))∧w=w':=by
 have c0:=h.at 0
 have c1:=h.at 1
 simp at c0 c1
 by_cases hl:0<lf
 all_goals
   go_enter Tryz.func147,Tryz.ntmps147
   go_wp2_with (go_at_call 52;refine (within_any _ _ _ _ h).mono ?_;rintro e w' ⟨rfl,rfl⟩)
   go_ret
   exact ⟨rfl,rfl⟩
theorem next_any (b:Nat) (sg lf:Int) (w:World) (h:Own w b 114 #[.int .i32 sg,.int .i64 lf]) :
   Calls Tryz.prog 80 #[.pointer (some ⟨b,0,none⟩)] w fun e w'=>e=.returned (.tuple #[.int .u8 (lowU sg lf),.int .u8 (highU sg lf)])∧w=w':=by
 have c0:=h.at 0
 have c1:=h.at 1
 simp at c0 c1
 by_cases h2:lf=2
 ·subst h2
  by_cases h0:sg=0
  ·subst h0
   go_enter Tryz.func80,Tryz.ntmps80
   go_wp2
   go_ret2
   exact ⟨rfl,rfl⟩
  ·have e0:(sg==0)=false:=beq_eq_false_iff_ne.2 h0
   by_cases h13:sg=13
   ·subst h13
    go_enter Tryz.func80,Tryz.ntmps80
    go_wp2
    go_ret2
    exact ⟨rfl,rfl⟩
   ·have e13:(sg==13)=false:=beq_eq_false_iff_ne.2 h13
    go_enter Tryz.func80,Tryz.ntmps80
    go_wp2
    go_ret2
    exact ⟨by simp[lowU,highU,h0,h13],rfl⟩
 ·have e2:(lf==2)=false:=beq_eq_false_iff_ne.2 h2
  by_cases h3:lf=3
  ·subst h3
   by_cases h0:sg=0
   ·subst h0
    go_enter Tryz.func80,Tryz.ntmps80
    go_wp2
    go_ret2
    exact ⟨rfl,rfl⟩
   ·have e0:(sg==0)=false:=beq_eq_false_iff_ne.2 h0
    by_cases h4:sg=4
    ·subst h4
     go_enter Tryz.func80,Tryz.ntmps80
     go_wp2
     go_ret2
     exact ⟨rfl,rfl⟩
    ·have e4:(sg==4)=false:=beq_eq_false_iff_ne.2 h4
     go_enter Tryz.func80,Tryz.ntmps80
     go_wp2
     go_ret2
     exact ⟨by simp[lowU,highU,h0,h4],rfl⟩
  ·have e3:(lf==3)=false:=beq_eq_false_iff_ne.2 h3
   go_enter Tryz.func80,Tryz.ntmps80
   go_wp2
   go_ret2
   exact ⟨by simp[lowU,highU,h2,h3],rfl⟩
theorem two_put {w:World} {b:Nat} {t:Nat} {x y u v:Value} (h:Own w b t #[x,y]) :
   Own ((w.setCell ⟨b,0,none⟩ u).setCell ⟨b,1,none⟩ v) b t #[u,v]∧Turned b w ((w.setCell ⟨b,0,none⟩ u).setCell ⟨b,1,none⟩ v) :=
 ⟨by simpa using (h.put 0 u).put 1 v,((Turned.refl b w).put 0 u).put 1 v⟩
theorem own_eq {w:World} {b:Nat} {t:Nat} {k1 k2:IntKind} {a a' c c':Int} (h:Own w b t #[.int k1 a,.int k2 c]) (e:a=a') (f:c=c'):Own w b t #[.int k1 a',.int k2 c']:=by
 subst e f;exact h
theorem begin_yes (b:Nat) (c sg lf:Int) (w:World) (h:Own w b 114 #[.int .i32 sg,.int .i64 lf]) (h0:0≤c) (hk:c<128∨194≤c∧c<245) :
   Calls Tryz.prog 79 #[.pointer (some ⟨b,0,none⟩),.int .u8 c] w fun e w'=>e=.returned (.bool true)∧Own w' b 114 #[.int .i32 (sgU sg 0 c),.int .i64 (lfU 0 c)]∧Turned b w w':=by
 have c0:=h.at 0
 have c1:=h.at 1
 have f0:=h.free 0
 have f1:=h.free 1
 simp at c0 c1
 have hh:(c<128)∨(194≤c∧c<224)∨(224≤c∧c<240)∨(240≤c∧c<245):=by omega
 rcases hh with hh|⟨h1,h2⟩|⟨h1,h2⟩|⟨h1,h2⟩
 all_goals
   go_enter Tryz.func79,Tryz.ntmps79
   go_wp2
   go_ret
   refine ⟨rfl,?_,(two_put h).2⟩
   refine own_eq (two_put h).1 ?_ ?_<;>simp[sgU,lfU]<;>(repeat' split)<;>omega
theorem begin_no (b:Nat) (c:Int) (w:World) (hk:¬ (c<128∨194≤c∧c<245)) :
   Calls Tryz.prog 79 #[.pointer (some ⟨b,0,none⟩),.int .u8 c] w fun e w'=>e=.returned (.bool false)∧w=w':=by
 have hh:(128≤c∧c<194)∨245≤c:=by omega
 clear hk
 rcases hh with ⟨h1,h2⟩|h1
 all_goals
   go_enter Tryz.func79,Tryz.ntmps79
   go_wp2
   go_ret
   exact ⟨rfl,rfl⟩
theorem step_yes (b:Nat) (c sg lf:Int) (w:World) (h:Own w b 114 #[.int .i32 sg,.int .i64 lf]) (hs:StU sg lf) (h0:0≤c) (hk:okU sg lf c=true) :
   Calls Tryz.prog 51 #[.pointer (some ⟨b,0,none⟩),.int .u8 c] w fun e w'=>e=.returned (.bool true)∧Own w' b 114 #[.int .i32 (sgU sg lf c),.int .i64 (lfU lf c)]∧Turned b w w':=by
 have c0:=h.at 0
 have c1:=h.at 1
 have f0:=h.free 0
 have f1:=h.free 1
 simp at c0 c1
 by_cases hl:lf=0
 ·subst hl
  have hk':=okU_zero hk
  clear hk
  have HB:=hid (begin_yes b c sg 0 w h h0 hk')
  clear hk'
  go_enter Tryz.func51,Tryz.ntmps51
  go_wp2_with (go_at_call 79;refine HB.out.mono ?_;rintro e w' ⟨rfl,hb⟩)
  go_ret
  exact ⟨rfl,hb⟩
 ·have el:(lf==0)=false:=beq_eq_false_iff_ne.2 hl
  have e1:sgU sg lf c=sg*64+(c-128):=by unfold sgU;rw[if_neg hl]
  have e2:lfU lf c=lf-1:=by unfold lfU;rw[if_neg hl]
  rw[e1,e2]
  obtain ⟨hk1,hk2⟩:=okU_more hl hk
  obtain ⟨hk3,hk4⟩:=okU_bd hl hk
  have g1:=lowU_in sg lf
  have g2:=highU_in sg lf
  have s0:0≤sg:=hs.1
  have s9:sg≤17407:=by unfold StU at hs;omega
  have l0:1≤lf:=by unfold StU at hs;omega
  have l9:lf≤3:=by unfold StU at hs;omega
  clear hs hk hl e1 e2
  have HN:=hid (next_any b sg lf w h)
  generalize lowU sg lf=lo at *
  generalize highU sg lf=hi at *
  go_enter Tryz.func51,Tryz.ntmps51
  go_wp2_with (go_at_call 80;refine HN.out.mono ?_;rintro e w' ⟨rfl,rfl⟩)
  go_ret
  refine ⟨rfl,own_eq (two_put h).1 (by omega) rfl,(two_put h).2⟩
theorem step_no (b:Nat) (c sg lf:Int) (w:World) (h:Own w b 114 #[.int .i32 sg,.int .i64 lf]) (hk:okU sg lf c=false) :
   Calls Tryz.prog 51 #[.pointer (some ⟨b,0,none⟩),.int .u8 c] w fun e w'=>e=.returned (.bool false)∧w=w':=by
 have c0:=h.at 0
 have c1:=h.at 1
 simp at c0 c1
 by_cases hl:lf=0
 ·subst hl
  have hk':¬ (c<128∨194≤c∧c<245):=by
    unfold okU at hk
    rw[if_pos rfl] at hk
    exact of_decide_eq_false hk
  clear hk
  have HB:=hid (begin_no b c w hk')
  clear hk'
  go_enter Tryz.func51,Tryz.ntmps51
  go_wp2_with (go_at_call 79;refine HB.out.mono ?_;rintro e w' ⟨rfl,rfl⟩)
  go_ret
  exact ⟨rfl,rfl⟩
 ·have el:(lf==0)=false:=beq_eq_false_iff_ne.2 hl
  have hk':¬ (lowU sg lf≤c∧c≤highU sg lf):=by
    unfold okU at hk
    rw[if_neg hl] at hk
    exact of_decide_eq_false hk
  clear hk
  have HN:=hid (next_any b sg lf w h)
  generalize lowU sg lf=lo at *
  generalize highU sg lf=hi at *
  by_cases hlo:c<lo
  ·clear hk' hl
   go_enter Tryz.func51,Tryz.ntmps51
   go_wp2_with (go_at_call 80;refine HN.out.mono ?_;rintro e w' ⟨rfl,rfl⟩)
   go_ret
   exact ⟨rfl,rfl⟩
  ·have hhi:hi<c:=by omega
   have hlo':lo≤c:=by omega
   clear hk' hl hlo
   go_enter Tryz.func51,Tryz.ntmps51
   go_wp2_with (go_at_call 80;refine HN.out.mono ?_;rintro e w' ⟨rfl,rfl⟩)
   go_ret
   exact ⟨rfl,rfl⟩
theorem runU_cons (sg lf:Int) (l:List UInt8) (k:Nat) (h:k<l.length) (n:Int) :
   runU sg lf (l.drop k) n=if okU sg lf l[k].toNat then runU (sgU sg lf l[k].toNat) (lfU lf l[k].toNat) (l.drop (k+1)) (n+1) else n:=by
 rw[List.drop_eq_getElem_cons h];rfl
def RelBad (s:ByteArray) (W wr:World) (i:Value):Prop :=
 ∃ (k:Nat) (sg lf:Int),k≤s.size∧i=.int .i64 k∧StU sg lf∧Own wr W.heap.size 114 #[.int .i32 sg,.int .i64 lf]∧Below W.heap.size W wr∧badU s.data.toList=runU sg lf (s.data.toList.drop k) k
theorem bad_any (s:ByteArray) (W:World) (hs:s.size≤maxLen) :
   Calls Tryz.prog 33 #[.string s] W fun e w'=>e=.returned (.int .i64 (badU s.data.toList))∧Below W.heap.size W w':=by
 unfold maxLen at hs
 go_enter Tryz.func33,Tryz.ntmps33
 go_wp2
 go_loopw [7] (fun i wr=>RelBad s W wr i) (fun i _=>s.size-(intOf i).toNat)
 case atStart=>exact ⟨0,0,0,Nat.zero_le _,rfl,stU_zero,Own.fresh _ _ _,(Below.refl _ _).alloc (Nat.le_refl _) _,rfl⟩
 case round =>
   obtain ⟨k,sg,lf,hk,rfl,hst,hown,hbel,hrun⟩:=hrel
   by_cases hlt:k<s.size
   ·have hl:k<s.data.toList.length:=hlt
    rw[runU_cons _ _ _ _ hl] at hrun
    have hc:s.data.toList[k]=s[k]:=rfl
    rw[hc] at hrun
    by_cases hok:okU sg lf s[k].toNat=true
    ·rw[if_pos hok] at hrun
     have HS:=hid (step_yes _ _ sg lf _ hown hst (Int.natCast_nonneg _) hok)
     have hst':=stU_step hst (Int.natCast_nonneg _) hok
     have HR:=hid hrun
     clear hrun hok hc
     go_wp2_with (go_at_call 51;refine HS.out.mono ?_;rintro e w' ⟨rfl,hown',htu⟩)
     go_roundw
     case rel=>exact ⟨k+1,_,_,hlt,by go_num,hst',hown',hbel.trans (htu.below (Nat.le_refl _) hbel.size),HR.out⟩
     case measure=>simp[intOf];omega
    ·rw[if_neg hok] at hrun
     have HS:=hid (step_no _ _ sg lf _ hown (by simpa using hok))
     have HR:=hid hrun
     clear hrun hok hc
     go_wp2_with (go_at_call 51;refine HS.out.mono ?_;rintro e w' ⟨rfl,rfl⟩)
     go_ret
     exact ⟨ret_i HR.out.symm,hbel⟩
   ·obtain rfl:k=s.size:=by omega
    rw[show s.data.toList.drop s.size=[] from List.drop_of_length_le (Nat.le_refl _)] at hrun
    have HR:=hid hrun
    have HW:=hid (within_any _ sg lf _ hown)
    clear hrun
    by_cases hl:0<lf
    all_goals
      go_wp2_with (go_at_call 52;refine HW.out.mono ?_;rintro e w' ⟨rfl,rfl⟩)
      go_ret
      exact ⟨ret_i (by rw[HR.out];simp[runU,hl]),hbel⟩
end
section
open Go.RowKit
def sizeR (c:Int):Int:=if c<128 then 1 else if 192≤c∧c<224 then 2 else if 224≤c∧c<240 then 3 else if 240≤c∧c<248 then 4 else 0
theorem rsize_any (c:Int) (w:World) :
   Calls Tryz.prog 109 #[.int .u8 c] w fun e w'=>e=.returned (.int .i64 (sizeR c))∧w=w':=by
 have hh:c<128∨(128≤c∧c<192)∨(192≤c∧c<224)∨(224≤c∧c<240)∨(240≤c∧c<248)∨248≤c:=by omega
 rcases hh with hh|⟨h1,h2⟩|⟨h1,h2⟩|⟨h1,h2⟩|⟨h1,h2⟩|hh
 all_goals
   go_enter Tryz.func109,Tryz.ntmps109
   go_wp2
   go_ret
   exact ⟨ret_i (by unfold sizeR;(repeat' split)<;>omega),rfl⟩
def baseR (n:Nat):Int:=if n=2 then 192 else if n=3 then 224 else if n=4 then 240 else 0
def moreR (n:Int)(l:List UInt8):Int:=l.foldl (fun n c=>n*64+c.toNat-128) n
def numR (l:List UInt8):Int:=match l with
 | []=>0
 | c :: t=>moreR (c.toNat-baseR l.length) t
theorem byte_le (s:ByteArray) (k:Nat) (h:k<s.size):0≤(s[k].toNat:Int)∧(s[k].toNat:Int)≤255:=by
 have:=UInt8.toNat_lt s[k]
 omega
def upR (s:ByteArray)(k:Nat):Int:=moreR ((s.data.toList.headD 0).toNat-baseR s.size) ((s.data.toList.take k).drop 1)
def bN (k:Nat):Int:=if k≤1 then 256 else if k=2 then 16640 else if k=3 then 1081600 else 70304000
theorem bN_up (k:Nat) (h:1≤k) (h4:k<4):bN k*64+128≤bN (k+1)∧0≤bN k∧bN k≤70304000:=by
 have:k=1∨k=2∨k=3:=by omega
 rcases this with rfl|rfl|rfl<;>decide
theorem upR_one (s:ByteArray) (h:0<s.size):upR s 1=s[0].toNat-baseR s.size:=by
 unfold upR
 have:(s.data.toList.take 1).drop 1=[]:=by
   apply List.drop_of_length_le
   simp
   omega
 rw[this]
 have h0:s.data.toList.headD 0=s[0]:=by
   have:0<s.data.toList.length:=h
   cases hl:s.data.toList with
   | nil=>rw[hl] at this;simp at this
   | cons a t =>
     have:s.data.toList[0]=a:=by simp[hl]
     exact this.symm
 rw[h0];rfl
theorem upR_more (s:ByteArray) (k:Nat) (h1:1≤k) (h:k<s.size):upR s (k+1)=upR s k*64+s[k].toNat-128:=by
 unfold upR
 have hk:k<s.data.toList.length:=h
 rw[List.take_succ_eq_append_getElem hk,List.drop_append_of_le_length (by simp;omega)]
 unfold moreR
 rw[List.foldl_append]
 rfl
theorem upR_all (s:ByteArray) (h:0<s.size):upR s s.size=numR s.data.toList:=by
 unfold upR
 have hl:0<s.data.toList.length:=h
 have e:s.data.toList.take s.size=s.data.toList:=List.take_of_length_le (Nat.le_refl _)
 have es:s.size=s.data.toList.length:=rfl
 rw[e,es]
 cases hc:s.data.toList with
 | nil=>rw[hc] at hl;simp at hl
 | cons a t=>rfl
def RelNum (s:ByteArray) (n i:Value):Prop :=
 ∃ k:Nat,1≤k∧k≤s.size∧i=.int .i64 k∧n=.int .i64 (upR s k) ∧ -bN k≤upR s k∧upR s k≤bN k
theorem rnumber_any (s:ByteArray) (w:World) (h1:0<s.size) (h4:s.size≤4) :
   Calls Tryz.prog 110 #[.string s] w fun e w'=>e=.returned (.int .i64 (numR s.data.toList))∧w=w':=by
 obtain ⟨b0,b9⟩:=byte_le s 0 h1
 have hu:=upR_one s h1
 have hz:s.size=1∨s.size=2∨s.size=3∨s.size=4:=by omega
 rcases hz with hz|hz|hz|hz
 all_goals
   rw[hz] at hu
   have HU:=hid hu
   have HZ:=hid hz
   have hb : -bN 1≤upR s 1∧upR s 1≤bN 1:=by rw[hu];simp[baseR,bN];omega
   clear hu
   go_enter Tryz.func110,Tryz.ntmps110
   go_wp2
   go_loop [3,4] (fun n i=>RelNum s n i) (fun _ i=>s.size-(intOf i).toNat)
   case atStart=>exact ⟨1,Nat.le_refl _,h1,rfl,by rw[HU.out];rfl,hb⟩
   case round =>
     obtain ⟨k,hk1,hk,rfl,rfl,hb1,hb2⟩:=hrel
     by_cases hlt:k<s.size
     ·obtain ⟨c0,c9⟩:=byte_le s k hlt
      obtain ⟨n0,n1,n2⟩:=bN_up k hk1 (by omega)
      have HM:=hid (upR_more s k hk1 hlt)
      first
        | omega
        | (go_wp2
           go_round
           case rel=>exact ⟨k+1,by omega,hlt,by go_num,by rw[HM.out],by rw[HM.out];omega,by rw[HM.out];omega⟩
           case measure=>simp[intOf];omega)
     ·have hk':k=s.size:=by omega
      have HA:=upR_all s h1
      rw[← hk'] at HA
      have HA':=hid HA
      clear HA hk'
      go_wp2
      go_ret
      exact ⟨ret_i HA'.out,rfl⟩
def contR (l:List UInt8):Bool:=l.all fun c=>decide (128≤c.toNat∧c.toNat≤191)
def leastR (n:Nat):Int:=if n=2 then 128 else if n=3 then 2048 else if n=4 then 65536 else 0
def padR (l:List UInt8)(n:Nat)(c:UInt8):List UInt8:=l++List.replicate (n-l.length) c
def endR (m n:Nat) (a b:Int):Bool×Bool×Int :=
 if b<leastR n∨1114111<a∨(55296≤a∧b≤57343) then (false,false,0) else if m=n then (true,true,a) else (true,false,0)
def begR (l:List UInt8):Bool×Bool×Int:=match l with
 | []=>(true,false,0)
 | c :: t =>
   if sizeR c.toNat=0∨sizeR c.toNat<(c :: t).length then (false,false,0) else
   if contR t then endR (c :: t).length (sizeR c.toNat).toNat (numR (padR (c :: t) (sizeR c.toNat).toNat 128)) (numR (padR (c :: t) (sizeR c.toNat).toNat 191)) else (false,false,0)
def ContTo (s:ByteArray)(k:Nat):Prop:=contR ((s.data.toList.take k).drop 1)=true
theorem contTo_one (s:ByteArray):ContTo s 1:=by
 unfold ContTo
 have:(s.data.toList.take 1).drop 1=[]:=by
   apply List.drop_of_length_le
   simp
   omega
 rw[this];rfl
theorem cont_snoc (s:ByteArray) (k:Nat) (h1:1≤k) (h:k<s.size):contR ((s.data.toList.take (k+1)).drop 1)=(contR ((s.data.toList.take k).drop 1)&&decide (128≤s[k].toNat∧s[k].toNat≤191)):=by
 have hk:k<s.data.toList.length:=h
 rw[List.take_succ_eq_append_getElem hk,List.drop_append_of_le_length (by simp;omega)]
 unfold contR
 rw[List.all_append]
 simp
 rfl
def RelCont (s:ByteArray)(i:Value):Prop:=∃ k:Nat,1≤k∧k≤s.size∧i=.int .i64 k∧ContTo s k
theorem cont_no (l:List UInt8):∀ k,contR ((l.take k).drop 1)=false→contR (l.drop 1)=false:=by
 intro k h
 have e:l.drop 1=(l.take k).drop 1++((l.drop 1).drop (k-1)):=by
   cases l with
   | nil=>simp
   | cons a t =>
     cases k with
     | zero=>simp[contR] at h
     | succ k=>simp
 rw[e]
 unfold contR at h ⊢
 rw[List.all_append,h];rfl
end
section
def InvL (l:List UInt8) (sg lf:Int):Prop:=match l with
 | []=>lf=0
 | [a]=>(194≤a.toNat∧a.toNat≤223∧lf=1∧sg=a.toNat-192)∨(224≤a.toNat∧a.toNat≤239∧lf=2∧sg=a.toNat-224)∨(240≤a.toNat∧a.toNat≤244∧lf=3∧sg=a.toNat-240)
 | [a,b]=>128≤b.toNat∧b.toNat≤191∧((224≤a.toNat∧a.toNat≤239∧lf=1∧sg=(a.toNat-224)*64+b.toNat-128∧32≤sg∧(sg<864∨896≤sg))∨(240≤a.toNat∧a.toNat≤244∧lf=2∧sg=(a.toNat-240)*64+b.toNat-128∧16≤sg∧sg≤271))
 | [a,b,c]=>128≤b.toNat∧b.toNat≤191∧128≤c.toNat∧c.toNat≤191∧240≤a.toNat∧a.toNat≤244∧lf=1∧sg=((a.toNat-240)*64+b.toNat-128)*64+c.toNat-128∧1024≤sg∧sg≤17407
 | _=>False
theorem begR_val (c:UInt8) (t:List UInt8) (n:Nat) (hn:sizeR c.toNat=n) (h1:1≤n) (h:(c :: t).length≤n) :
   begR (c :: t)=if contR t then endR (c :: t).length n (numR (padR (c :: t) n 128)) (numR (padR (c :: t) n 191)) else (false,false,0):=by
 show (if sizeR c.toNat=0∨sizeR c.toNat<(c :: t).length then (false,false,0) else
   if contR t then endR (c :: t).length (sizeR c.toNat).toNat (numR (padR (c :: t) (sizeR c.toNat).toNat 128)) (numR (padR (c :: t) (sizeR c.toNat).toNat 191)) else (false,false,0))=_
 rw[if_neg (by rw[hn];omega),hn]
 rfl
theorem sizeR_2 {c:Int}(h:192≤c)(h':c<224):sizeR c=(2:Nat):=by unfold sizeR;(repeat' split)<;>omega
theorem sizeR_3 {c:Int}(h:224≤c)(h':c<240):sizeR c=(3:Nat):=by unfold sizeR;(repeat' split)<;>omega
theorem sizeR_4 {c:Int}(h:240≤c)(h':c<248):sizeR c=(4:Nat):=by unfold sizeR;(repeat' split)<;>omega
theorem sizeR_1 {c:Int}(h':c<128):sizeR c=(1:Nat):=by unfold sizeR;(repeat' split)<;>omega
theorem sizeR_0 {c:Int}(h:128≤c∧c<192∨248≤c):sizeR c=0:=by unfold sizeR;(repeat' split)<;>omega
theorem begR_zero (c:UInt8) (t:List UInt8) (h:sizeR c.toNat=0):begR (c :: t)=(false,false,0):=by
 show (if sizeR c.toNat=0∨sizeR c.toNat<(c :: t).length then (false,false,0) else
   if contR t then endR (c :: t).length (sizeR c.toNat).toNat (numR (padR (c :: t) (sizeR c.toNat).toNat 128)) (numR (padR (c :: t) (sizeR c.toNat).toNat 191)) else (false,false,0))=_
 rw[if_pos (.inl h)]
def ansU (sg lf c:Int):Bool×Bool×Int :=
 if okU sg lf c then (if lfU lf c=0 then (true,true,sgU sg lf c) else (true,false,0)) else (false,false,0)
theorem ans_end {m n:Nat} {a b sg lf c:Int} (hr:(b<leastR n∨1114111<a∨(55296≤a∧b≤57343))↔okU sg lf c=false)
   (hw:okU sg lf c=true→(m=n↔lfU lf c=0)) (hv:okU sg lf c=true→m=n→sgU sg lf c=a):endR m n a b=ansU sg lf c:=by
 unfold endR ansU
 by_cases hk:okU sg lf c=true
 ·rw[if_neg (by rw[hr,hk];simp),if_pos hk]
  by_cases hm:m=n
  ·rw[if_pos hm,if_pos ((hw hk).1 hm),hv hk hm]
  ·rw[if_neg hm,if_neg (fun h=>hm ((hw hk).2 h))]
 ·rw[if_pos (hr.2 (by simpa using hk)),if_neg hk]
theorem okU_iff0 (sg c:Int):okU sg 0 c=false↔¬ (c<128∨194≤c∧c<245):=by
 unfold okU;rw[if_pos rfl];simp
theorem okU_iff {sg lf c:Int} (h:lf≠0):okU sg lf c=false↔¬ (lowU sg lf≤c∧c≤highU sg lf):=by
 unfold okU;rw[if_neg h];simp
theorem beg_one (c:UInt8) (sg:Int):begR [c]=ansU sg 0 c.toNat:=by
 have hc:=UInt8.toNat_lt c
 have hh:(c.toNat:Int)<128∨(192≤(c.toNat:Int)∧(c.toNat:Int)<224)∨(224≤(c.toNat:Int)∧(c.toNat:Int)<240)∨(240≤(c.toNat:Int)∧(c.toNat:Int)<248)∨(128≤(c.toNat:Int)∧(c.toNat:Int)<192∨248≤(c.toNat:Int)):=by omega
 rcases hh with h|⟨h,h'⟩|⟨h,h'⟩|⟨h,h'⟩|h
 ·rw[begR_val c [] 1 (sizeR_1 h) (by omega) (by simp),if_pos (show contR []=true from rfl)]
  refine ans_end ?_ ?_ ?_
  ·rw[okU_iff0];simp[padR,numR,moreR,leastR,baseR];omega
  ·simp[lfU];omega
  ·simp[sgU,padR,numR,moreR,baseR];omega
 ·rw[begR_val c [] 2 (sizeR_2 h h') (by omega) (by simp),if_pos (show contR []=true from rfl)]
  refine ans_end ?_ ?_ ?_
  ·rw[okU_iff0];simp[padR,numR,moreR,leastR,baseR];omega
  ·simp[lfU];omega
  ·simp
 ·rw[begR_val c [] 3 (sizeR_3 h h') (by omega) (by simp),if_pos (show contR []=true from rfl)]
  refine ans_end ?_ ?_ ?_
  ·rw[okU_iff0];simp[padR,numR,moreR,leastR,baseR,List.replicate];omega
  ·simp[lfU];omega
  ·simp
 ·rw[begR_val c [] 4 (sizeR_4 h h') (by omega) (by simp),if_pos (show contR []=true from rfl)]
  refine ans_end ?_ ?_ ?_
  ·rw[okU_iff0];simp[padR,numR,moreR,leastR,baseR,List.replicate];omega
  ·simp[lfU];omega
  ·simp
 ·rw[begR_zero c [] (sizeR_0 h)]
  unfold ansU
  rw[(okU_iff0 sg c.toNat).2 (by omega)];rfl
theorem beg_bad (c:UInt8) (t:List UInt8) (n:Nat) (hn:sizeR c.toNat=n) (h1:1≤n) (h:(c :: t).length≤n) (hb:contR t=false) {sg lf x:Int} (hl:lf≠0) (hx:¬ (128≤x∧x≤191)) :
   begR (c :: t)=ansU sg lf x:=by
 rw[begR_val c t n hn h1 h,if_neg (by rw[hb];simp)]
 unfold ansU
 rw[(okU_iff hl).2 (by have:=lowU_in sg lf;have:=highU_in sg lf;omega)];rfl
theorem lowhigh (sg lf c:Int) (h:128≤c) (h':c≤191) (hl:lf≠0) :
   okU sg lf c=false↔(lf=2∧sg=0∧c<160)∨(lf=3∧sg=0∧c<144)∨(lf=2∧sg=13∧160≤c)∨(lf=3∧sg=4∧144≤c):=by
 rw[okU_iff hl]
 unfold lowU highU
 (repeat' split)<;>omega
theorem beg_more (l:List UInt8) (c:UInt8) (sg lf:Int) (hne:l≠[]) (h:InvL l sg lf):begR (l++[c])=ansU sg lf c.toNat:=by
 have hc:=UInt8.toNat_lt c
 have hlf:lf≠0:=by
   unfold InvL at h
   split at h<;>(first|exact absurd rfl hne|exact h.elim|omega)
 have e2:lfU lf c.toNat=lf-1:=by unfold lfU;rw[if_neg hlf]
 have e1:sgU sg lf c.toNat=sg*64+(c.toNat-128):=by unfold sgU;rw[if_neg hlf]
 match l,h with
 | [a], h =>
   have ha:=UInt8.toNat_lt a
   show begR (a :: [c])=_
   rcases h with ⟨h1,h2,rfl,h3⟩|⟨h1,h2,rfl,h3⟩|⟨h1,h2,rfl,h3⟩
   all_goals
     by_cases hb:128≤(c.toNat:Int)∧(c.toNat:Int)≤191
     ·have hk:=lowhigh sg _ c.toNat hb.1 hb.2 hlf
      first
        | rw[begR_val a [c] 2 (sizeR_2 (by omega) (by omega)) (by omega) (by simp),if_pos (by simp[contR];omega)]
        | rw[begR_val a [c] 3 (sizeR_3 (by omega) (by omega)) (by omega) (by simp),if_pos (by simp[contR];omega)]
        | rw[begR_val a [c] 4 (sizeR_4 (by omega) (by omega)) (by omega) (by simp),if_pos (by simp[contR];omega)]
      refine ans_end ?_ ?_ ?_
      ·rw[hk];simp[padR,numR,moreR,leastR,baseR,List.replicate];omega
      ·rw[e2];simp
      ·rw[e1];simp[padR,numR,moreR,baseR]<;>omega
     ·first
        | exact beg_bad a [c] 2 (sizeR_2 (by omega) (by omega)) (by omega) (by simp) (by simp[contR];omega) hlf hb
        | exact beg_bad a [c] 3 (sizeR_3 (by omega) (by omega)) (by omega) (by simp) (by simp[contR];omega) hlf hb
        | exact beg_bad a [c] 4 (sizeR_4 (by omega) (by omega)) (by omega) (by simp) (by simp[contR];omega) hlf hb
 | [a, b], h =>
   have ha:=UInt8.toNat_lt a
   have hb:=UInt8.toNat_lt b
   show begR (a :: [b,c])=_
   obtain ⟨g1,g2,⟨h1,h2,rfl,h3,h4,h5⟩|⟨h1,h2,rfl,h3,h4,h5⟩⟩:=h
   all_goals
     by_cases hb:128≤(c.toNat:Int)∧(c.toNat:Int)≤191
     ·have hk:=lowhigh sg _ c.toNat hb.1 hb.2 hlf
      first
        | rw[begR_val a [b,c] 3 (sizeR_3 (by omega) (by omega)) (by omega) (by simp),if_pos (by simp[contR];omega)]
        | rw[begR_val a [b,c] 4 (sizeR_4 (by omega) (by omega)) (by omega) (by simp),if_pos (by simp[contR];omega)]
      refine ans_end ?_ ?_ ?_
      ·rw[hk];simp[padR,numR,moreR,leastR,baseR];omega
      ·rw[e2];simp
      ·rw[e1];simp[padR,numR,moreR,baseR]<;>omega
     ·first
        | exact beg_bad a [b,c] 3 (sizeR_3 (by omega) (by omega)) (by omega) (by simp) (by simp[contR];omega) hlf hb
        | exact beg_bad a [b,c] 4 (sizeR_4 (by omega) (by omega)) (by omega) (by simp) (by simp[contR];omega) hlf hb
 | [a, b,d],h =>
   have ha:=UInt8.toNat_lt a
   have hb:=UInt8.toNat_lt b
   have hd:=UInt8.toNat_lt d
   show begR (a :: [b,d,c])=_
   obtain ⟨g1,g2,g3,g4,h1,h2,rfl,h3,h4,h5⟩:=h
   by_cases hb:128≤(c.toNat:Int)∧(c.toNat:Int)≤191
   ·have hk:=lowhigh sg _ c.toNat hb.1 hb.2 hlf
    rw[begR_val a [b,d,c] 4 (sizeR_4 (by omega) (by omega)) (by omega) (by simp),if_pos (by simp[contR];omega)]
    refine ans_end ?_ ?_ ?_
    ·rw[hk];simp[padR,numR,moreR,leastR,baseR];omega
    ·rw[e2];simp
    ·rw[e1];simp[padR,numR,moreR,baseR];omega
   ·exact beg_bad a [b,d,c] 4 (sizeR_4 (by omega) (by omega)) (by omega) (by simp) (by simp[contR];omega) hlf hb
theorem beg_any (l:List UInt8) (c:UInt8) (sg lf:Int) (h:InvL l sg lf):begR (l++[c])=ansU sg lf c.toNat:=by
 cases l with
 | nil=>obtain rfl:lf=0:=h;exact beg_one c sg
 | cons a t=>exact beg_more _ c sg lf (by simp) h
theorem invL_len {l:List UInt8} {sg lf:Int} (h:InvL l sg lf):l.length≤3∧(l=[]↔lf=0):=by
 match l,h with
 | [],h=>exact ⟨by simp,by simp;exact h⟩
 | [a],h=>exact ⟨by simp,by simp;unfold InvL at h;simp at h;omega⟩
 | [a,b],h=>exact ⟨by simp,by simp;unfold InvL at h;simp at h;omega⟩
 | [a,b,c],h=>exact ⟨by simp,by simp;unfold InvL at h;simp at h;omega⟩
theorem invL_size {l:List UInt8} {sg lf:Int} {c:UInt8} (h:InvL l sg lf):∀ a t,l++[c]=a :: t→(∃ n:Nat,(n=1∨n=2∨n=3∨n=4)∧(l++[c]).length≤n∧sizeR a.toNat=n)∨(sizeR a.toNat=0):=by
 intro a t e
 match l,h with
 | [],h =>
   have hc:=UInt8.toNat_lt c
   simp at e
   obtain ⟨rfl,rfl⟩:=e
   have hh:(c.toNat:Int)<128∨(192≤(c.toNat:Int)∧(c.toNat:Int)<224)∨(224≤(c.toNat:Int)∧(c.toNat:Int)<240)∨(240≤(c.toNat:Int)∧(c.toNat:Int)<248)∨(128≤(c.toNat:Int)∧(c.toNat:Int)<192∨248≤(c.toNat:Int)):=by omega
   rcases hh with h|⟨h,h'⟩|⟨h,h'⟩|⟨h,h'⟩|h
   ·exact .inl ⟨1,by omega,by simp,sizeR_1 h⟩
   ·exact .inl ⟨2,by omega,by simp,sizeR_2 h h'⟩
   ·exact .inl ⟨3,by omega,by simp,sizeR_3 h h'⟩
   ·exact .inl ⟨4,by omega,by simp,sizeR_4 h h'⟩
   ·exact .inr (sizeR_0 h)
 | [b],h =>
   simp at e
   obtain ⟨rfl,rfl⟩:=e
   rcases h with ⟨h1,h2,_,_⟩|⟨h1,h2,_,_⟩|⟨h1,h2,_,_⟩
   ·exact .inl ⟨2,by omega,by simp,sizeR_2 (by omega) (by omega)⟩
   ·exact .inl ⟨3,by omega,by simp,sizeR_3 (by omega) (by omega)⟩
   ·exact .inl ⟨4,by omega,by simp,sizeR_4 (by omega) (by omega)⟩
 | [b,d],h =>
   simp at e
   obtain ⟨rfl,rfl⟩:=e
   rcases h with ⟨_,_,⟨h1,h2,_⟩|⟨h1,h2,_⟩⟩
   ·exact .inl ⟨3,by omega,by simp,sizeR_3 (by omega) (by omega)⟩
   ·exact .inl ⟨4,by omega,by simp,sizeR_4 (by omega) (by omega)⟩
 | [b,d,f],h =>
   simp at e
   obtain ⟨rfl,rfl⟩:=e
   obtain ⟨_,_,_,_,h1,h2,_⟩:=h
   exact .inl ⟨4,by omega,by simp,sizeR_4 (by omega) (by omega)⟩
theorem invL_step {l:List UInt8} {sg lf:Int} {c:UInt8} (h:InvL l sg lf) (hk:okU sg lf c.toNat=true) :
   InvL (if lfU lf c.toNat=0 then [] else l++[c]) (sgU sg lf c.toNat) (lfU lf c.toNat):=by
 by_cases hz:lfU lf c.toNat=0
 ·rw[if_pos hz];exact hz
 ·rw [if_neg hz]
  have hc:=UInt8.toNat_lt c
  match l,h with
  | [], h =>
    obtain rfl:lf=0:=h
    have hk':=okU_zero hk
    unfold lfU at hz ⊢
    unfold sgU
    simp only [if_true] at hz ⊢
    show (_∨_)
    split at hz
    ·exact absurd rfl hz
    ·rename_i h1
     rw[if_neg h1,if_neg h1]
     (repeat' split)<;>omega
  | [a],h =>
    have hlf:lf≠0:=fun e=>by have:=(invL_len h).2.2 e;cases this
    have e2:lfU lf c.toNat=lf-1:=by unfold lfU;rw[if_neg hlf]
    have e1:sgU sg lf c.toNat=sg*64+(c.toNat-128):=by unfold sgU;rw[if_neg hlf]
    have hb:=okU_bd hlf hk
    have hn:=(lowhigh sg lf c.toNat hb.1 hb.2 hlf)
    rw[hk] at hn
    simp only [Bool.true_eq_false,false_iff] at hn
    rw[e2] at hz
    rw[e1,e2]
    rcases h with ⟨h1,h2,rfl,h3⟩|⟨h1,h2,rfl,h3⟩|⟨h1,h2,rfl,h3⟩
    ·omega
    ·exact ⟨by omega,by omega,.inl ⟨by omega,by omega,by omega,by omega,by omega,by omega⟩⟩
    ·exact ⟨by omega,by omega,.inr ⟨by omega,by omega,by omega,by omega,by omega,by omega⟩⟩
  | [a,b],h =>
    have hlf:lf≠0:=fun e=>by have:=(invL_len h).2.2 e;cases this
    have e2:lfU lf c.toNat=lf-1:=by unfold lfU;rw[if_neg hlf]
    have e1:sgU sg lf c.toNat=sg*64+(c.toNat-128):=by unfold sgU;rw[if_neg hlf]
    have hb:=okU_bd hlf hk
    rw[e2] at hz
    rw[e1,e2]
    obtain ⟨g1,g2,⟨h1,h2,rfl,h3,h4,h5⟩|⟨h1,h2,rfl,h3,h4,h5⟩⟩:=h
    ·omega
    ·exact ⟨by omega,by omega,by omega,by omega,by omega,by omega,by omega,by omega,by omega,by omega⟩
  | [a,b,d],h =>
    have hlf:lf≠0:=fun e=>by have:=(invL_len h).2.2 e;cases this
    have e2:lfU lf c.toNat=lf-1:=by unfold lfU;rw[if_neg hlf]
    rw[e2] at hz
    obtain ⟨g1,g2,g3,g4,h1,h2,rfl,h3,h4,h5⟩:=h
    omega
end
end Go.Proofs.YtnokhgfifbkflaaGreat
