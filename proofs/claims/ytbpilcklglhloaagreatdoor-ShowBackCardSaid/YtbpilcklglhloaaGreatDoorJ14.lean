/- Lemmas. -/
import Derived.Test.YtbpilcklglhloaaGreatDoorJ12
import Derived.Deep.RegionLaw
set_option maxRecDepth 100000
set_option maxHeartbeats 8000000
set_option linter.unusedVariables false
namespace Go.Proofs.YtbpilcklglhloaaGreatDoor
open Go.Lib (hid)
section
open Go.RowKit
def RelEq (l l':List (List UInt8))(W wr:World)(v:Value):Prop:=∃ k q:Nat,v=.int .i64 k∧k≤l.length∧l.take k=l'.take k∧wr=W.drewN q
theorem nam_at {w:World} {A:Option Addr} {m:Nat} {l:List (List UInt8)} (h:RdG namK w A m l) (hm:0<m):∃ b o:Nat,A=some ⟨b,o,none⟩ ∧ ∀ q k (hk:k<l.length),(w.drewN q).cell? ⟨b,o+k,none⟩=some (.string ⟨l[k].toArray⟩):=by
 obtain ⟨b,o,e,_,_⟩:=h.2 hm
 refine ⟨b,o,e,fun q k hk => ?_⟩
 have:=h.at e (List.getElem?_eq_getElem hk) (j:=0) rfl
 simpa [show namK.n=1 from rfl] using this
theorem equal_any (A B:Option Addr) (m c n d:Nat) (l l':List (List UInt8)) (W:World) (h1:RdG namK W A m l) (h2:RdG namK W B n l') (hb:l.length≤1000000000) :
   Calls Tryz.prog 28 #[.slice A m c,.slice B n d] W fun e w'=>e=.returned (.bool (decide (l=l'))) ∧ ∃ q,w'=W.drewN q:=by
 have hl1:=h1.1
 have hl2:=h2.1
 subst hl1 hl2
 by_cases hlen:l.length=l'.length
 ·have hz:((l.length:Int) != (l'.length:Int))=false:=by simp[hlen]
  go_enter Tryz.func28,Tryz.ntmps28
  go_wp2
  go_loopw [13] (fun i wr=>RelEq l l' W wr i) (fun i _=>l.length-(intOf i).toNat)
  case atStart=>exact ⟨0,0,rfl,Nat.zero_le _,rfl,rfl⟩
  case round =>
    obtain ⟨k,q,rfl,hk,hp,hq⟩:=hrel
    have HQ:=hid hq
    by_cases hlt:k<l.length
    ·obtain ⟨b1,o1,rfl,g1⟩:=nam_at h1 (by omega)
     obtain ⟨b2,o2,rfl,g2⟩:=nam_at h2 (by omega)
     have c1:=g1 q k hlt
     have c2:=g2 q k (by omega)
     rw[← hq] at c1 c2
     have hlt1:(k:Int)<(l.length:Int):=by omega
     have hlt2:(k:Int)<(l'.length:Int):=by omega
     have hk0:(0:Int)≤(k:Int):=by omega
     have et:l.take (k+1)=l.take k++[l[k]]:=List.take_succ_eq_append_getElem hlt
     have et':l'.take (k+1)=l'.take k++[l'[k]]:=List.take_succ_eq_append_getElem (by omega)
     have HE:=hid (show l[k]≠l'[k]→l≠l' from fun h e=>h (by simp[e]))
     have hP:l[k]=l'[k]→l.take (k+1)=l'.take (k+1):=fun h=>by rw[et,et',hp,h]
     clear g1 g2 et et' hp hq
     generalize l[k]=s at *
     generalize l'[k]=t at *
     by_cases hst:s=t
     ·have HP:=hid (hP hst)
      subst hst
      clear hP HE
      go_wp2
      go_quiet (fail)
      go_wp2
      go_roundw
      case rel=>exact ⟨k+1,_,by go_num,hlt,HP.out,by rw[HQ.out];exact World.drewN_drewN _ _ _⟩
      case measure=>simp[intOf];omega
     ·have HE':=hid (HE.out hst)
      have hs:(s==t)=false:=beq_eq_false_iff_ne.2 hst
      clear hP HE
      go_wp2
      go_quiet (fail)
      go_wp2
      go_ret
      exact ⟨by rw[decide_eq_false (HE'.out)];rfl,_,by rw[HQ.out];exact World.drewN_drewN _ _ _⟩
    ·obtain rfl:k=l.length:=by omega
     rw[List.take_length,hlen,List.take_length] at hp
     subst hp
     clear hq
     go_wp2
     go_ret
     exact ⟨by simp,_,HQ.out⟩
 ·have hz:((l.length:Int) != (l'.length:Int))=true:=by simp;omega
  go_enter Tryz.func28,Tryz.ntmps28
  go_wp2
  go_ret
  exact ⟨by rw[decide_eq_false (fun e=>hlen (by rw[e]))];rfl,0,rfl⟩
theorem CellsAt.six {w:World} {p:Addr} {x:V6} (h:CellsAt w p x):∃ b o:Nat,p=⟨b,o,none⟩∧b<w.heap.size∧w.cell? ⟨b,o,none⟩=some (.int .i64 x.kd)∧w.cell? ⟨b,o+1,none⟩=some (.int .i64 x.fr)∧w.cell? ⟨b,o+2,none⟩=some (.int .i64 x.to) ∧
   w.cell? ⟨b,o+3,none⟩=some (.string ⟨x.tx.toArray⟩)∧w.cell? ⟨b,o+4,none⟩=some (.slice x.A x.n x.c)∧w.cell? ⟨b,o+5,none⟩=some (.slice x.B x.m x.d):=by
 obtain ⟨b,o,e,hb,g⟩:=h
 exact ⟨b,o,e,hb,g 0 _ rfl,g 1 _ rfl,g 2 _ rfl,g 3 _ rfl,g 4 _ rfl,g 5 _ rfl⟩
theorem alike_any (x y:V6) (nx ny:List (List UInt8)) (p q:Addr) (w:World) (hx:CellsAt w p x) (hy:CellsAt w q y) (hnx:RdG namK w x.B x.m nx) (hny:RdG namK w y.B y.m ny) (hb:nx.length≤1000000000) :
   Calls Tryz.prog 12 #[.pointer (some p),.pointer (some q)] w fun e w'=>e=.returned (.bool (decide (x.kd=y.kd)&&decide (x.tx=y.tx)&&decide (nx=ny)&&decide (x.n=y.n))) ∧ ∃ n,w'=w.drewN n:=by
 obtain ⟨b1,o1,rfl,_,a0,_,_,a3,a4,a5⟩:=hx.six
 obtain ⟨b2,o2,rfl,_,c0,_,_,c3,c4,c5⟩:=hy.six
 have HE:=hid (fun m=>equal_any x.B y.B x.m x.d y.m y.d nx ny (w.drewN m) hnx hny hb)
 obtain ⟨kd,fr,to,tx,A,n,c,B,m,d⟩:=x
 obtain ⟨kd',fr',to',tx',A',n',c',B',m',d'⟩:=y
 simp only at a0 a3 a4 a5 c0 c3 c4 c5 HE
 clear hx hy hnx hny
 show Calls _ _ _ _ fun e w'=>e=.returned (.bool (decide (kd=kd')&&decide (tx=tx')&&decide (nx=ny)&&decide (n=n')))∧_
 by_cases h1:kd=kd'
 ·subst h1
  by_cases h2:tx=tx'
  ·subst h2
   by_cases h3:nx=ny
   ·have e3:decide (nx=ny)=true:=decide_eq_true h3
    rw[e3]
    simp only [e3] at HE
    clear h3 e3
    by_cases h4:n=n'
    ·subst h4
     go_enter Tryz.func12,Tryz.ntmps12
     go_wp2
     go_quiet ((go_at_call 28;exact Calls.quiet_of (HE.out _)))
     go_wp2
     go_ret
     exact ⟨by simp,_,rfl⟩
    ·have e4:((n:Int)==(n':Int))=false:=beq_eq_false_iff_ne.2 (by omega)
     rw[decide_eq_false h4]
     go_enter Tryz.func12,Tryz.ntmps12
     go_wp2
     go_quiet ((go_at_call 28;exact Calls.quiet_of (HE.out _)))
     go_wp2
     go_ret
     exact ⟨by simp,_,rfl⟩
   ·have e3:decide (nx=ny)=false:=decide_eq_false h3
    rw[e3]
    simp only [e3] at HE
    clear h3 e3
    go_enter Tryz.func12,Tryz.ntmps12
    go_wp2
    go_quiet ((go_at_call 28;exact Calls.quiet_of (HE.out _)))
    go_wp2
    go_ret
    exact ⟨by simp,_,rfl⟩
  ·have e2:(tx==tx')=false:=beq_eq_false_iff_ne.2 h2
   rw[decide_eq_false h2]
   go_enter Tryz.func12,Tryz.ntmps12
   go_wp2
   go_quiet (fail)
   go_wp2
   go_ret
   exact ⟨by simp,_,rfl⟩
 ·have e1:(kd==kd')=false:=beq_eq_false_iff_ne.2 h1
  rw[decide_eq_false h1]
  go_enter Tryz.func12,Tryz.ntmps12
  go_wp2
  go_quiet (fail)
  go_wp2
  go_ret
  exact ⟨by simp,_,rfl⟩
end
end Go.Proofs.YtbpilcklglhloaaGreatDoor
