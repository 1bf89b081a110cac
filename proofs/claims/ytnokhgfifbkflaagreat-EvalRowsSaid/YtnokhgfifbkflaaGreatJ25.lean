/- Lemmas. -/
import Derived.Test.YtnokhgfifbkflaaGreatProg
import Derived.Test.YtnokhgfifbkflaaGreatJ05
import Derived.Test.YtnokhgfifbkflaaGreatJ11
import Derived.Deep.CutBlock
import Derived.Lib.AtoiAll
import Derived.Lib.ConvBytes
import Derived.Lib.OwnBridge
import Derived.StillTailTactics
set_option maxRecDepth 100000
set_option maxHeartbeats 8000000
set_option linter.unusedVariables false
namespace Go.Proofs.YtnokhgfifbkflaaGreat
open Go.Lib (hid)
section
open Go.RowKit
def QL (at_ sg lf num cnt fst:Int) (last:Option Addr) (signs:List Int) (loose:Nat):List Value :=
 .int .i64 at_ :: .int .i32 sg :: .int .i64 lf :: .int .i64 num :: .int .i64 cnt :: .int .i64 fst :: .pointer last :: (signs.map (Value.int .i32)++[.int .i64 loose])
def QW (w:World) (b:Nat) (at_ sg lf num cnt fst:Int) (last:Option Addr) (signs:List Int) (loose:Nat):Prop :=
 signs.length=64∧Own w b 191 (QL at_ sg lf num cnt fst last signs loose).toArray
section
variable {w w':World} {b:Nat} {at_ sg lf num cnt fst:Int} {last:Option Addr} {signs:List Int} {loose:Nat}
theorem QW.inside (h:QW w b at_ sg lf num cnt fst last signs loose):b<w.heap.size:=h.2.inside
theorem QW.free (h:QW w b at_ sg lf num cnt fst last signs loose)(i:Nat):w.frozen? ⟨b,i,none⟩=false:=h.2.free i
theorem QW.stay (h:QW w b at_ sg lf num cnt fst last signs loose)(hk:w'.heap[b]?=w.heap[b]?):QW w' b at_ sg lf num cnt fst last signs loose:=⟨h.1,hk.trans h.2⟩
theorem QW.c0 (h:QW w b at_ sg lf num cnt fst last signs loose):w.cell? ⟨b,0,none⟩=some (.int .i64 at_):=by
 rw[h.2.at];simp[QL]
theorem QW.c1 (h:QW w b at_ sg lf num cnt fst last signs loose):w.cell? ⟨b,1,none⟩=some (.int .i32 sg):=by
 rw[h.2.at];simp[QL]
theorem QW.c2 (h:QW w b at_ sg lf num cnt fst last signs loose):w.cell? ⟨b,2,none⟩=some (.int .i64 lf):=by
 rw[h.2.at];simp[QL]
theorem QW.c3 (h:QW w b at_ sg lf num cnt fst last signs loose):w.cell? ⟨b,3,none⟩=some (.int .i64 num):=by
 rw[h.2.at];simp[QL]
theorem QW.c4 (h:QW w b at_ sg lf num cnt fst last signs loose):w.cell? ⟨b,4,none⟩=some (.int .i64 cnt):=by
 rw[h.2.at];simp[QL]
theorem QW.c5 (h:QW w b at_ sg lf num cnt fst last signs loose):w.cell? ⟨b,5,none⟩=some (.int .i64 fst):=by
 rw[h.2.at];simp[QL]
theorem QW.c6 (h:QW w b at_ sg lf num cnt fst last signs loose):w.cell? ⟨b,6,none⟩=some (.pointer last):=by
 rw[h.2.at];simp[QL]
theorem QW.sign (h:QW w b at_ sg lf num cnt fst last signs loose) (j:Nat) (hj:j<64):w.cell? ⟨b,7+j,none⟩=some (.int .i32 (signs.getD j 0)):=by
 have hl:=h.1
 rw[h.2.at,show 7+j=j+7 by omega]
 simp[QL,List.getElem?_append,hl,hj]
theorem QW.c71 (h:QW w b at_ sg lf num cnt fst last signs loose):w.cell? ⟨b,71,none⟩=some (.int .i64 loose):=by
 have hl:=h.1
 rw[h.2.at]
 simp[QL,hl]
theorem QW.put0 (h:QW w b at_ sg lf num cnt fst last signs loose) (x:Int):QW (w.setCell ⟨b,0,none⟩ (.int .i64 x)) b x sg lf num cnt fst last signs loose :=
 ⟨h.1,by simpa [QL] using h.2.put 0 (.int .i64 x)⟩
theorem QW.put1 (h:QW w b at_ sg lf num cnt fst last signs loose) (x:Int):QW (w.setCell ⟨b,1,none⟩ (.int .i32 x)) b at_ x lf num cnt fst last signs loose :=
 ⟨h.1,by simpa [QL] using h.2.put 1 (.int .i32 x)⟩
theorem QW.put2 (h:QW w b at_ sg lf num cnt fst last signs loose) (x:Int):QW (w.setCell ⟨b,2,none⟩ (.int .i64 x)) b at_ sg x num cnt fst last signs loose :=
 ⟨h.1,by simpa [QL] using h.2.put 2 (.int .i64 x)⟩
theorem QW.put3 (h:QW w b at_ sg lf num cnt fst last signs loose) (x:Int):QW (w.setCell ⟨b,3,none⟩ (.int .i64 x)) b at_ sg lf x cnt fst last signs loose :=
 ⟨h.1,by simpa [QL] using h.2.put 3 (.int .i64 x)⟩
theorem QW.put4 (h:QW w b at_ sg lf num cnt fst last signs loose) (x:Int):QW (w.setCell ⟨b,4,none⟩ (.int .i64 x)) b at_ sg lf num x fst last signs loose :=
 ⟨h.1,by simpa [QL] using h.2.put 4 (.int .i64 x)⟩
theorem QW.put5 (h:QW w b at_ sg lf num cnt fst last signs loose) (x:Int):QW (w.setCell ⟨b,5,none⟩ (.int .i64 x)) b at_ sg lf num cnt x last signs loose :=
 ⟨h.1,by simpa [QL] using h.2.put 5 (.int .i64 x)⟩
theorem QW.put6 (h:QW w b at_ sg lf num cnt fst last signs loose) (x:Option Addr):QW (w.setCell ⟨b,6,none⟩ (.pointer x)) b at_ sg lf num cnt fst x signs loose :=
 ⟨h.1,by simpa [QL] using h.2.put 6 (.pointer x)⟩
theorem QW.put71 (h:QW w b at_ sg lf num cnt fst last signs loose) (x:Nat):QW (w.setCell ⟨b,71,none⟩ (.int .i64 x)) b at_ sg lf num cnt fst last signs x :=
 ⟨h.1,by
   have hl:=h.1
   have:=h.2.put 71 (.int .i64 x)
   simpa [QL,List.set_append,hl] using this⟩
theorem QW.putS (h:QW w b at_ sg lf num cnt fst last signs loose) (j:Nat) (hj:j<64) (x:Int):QW (w.setCell ⟨b,7+j,none⟩ (.int .i32 x)) b at_ sg lf num cnt fst last (signs.set j x) loose :=
 ⟨by simpa using h.1,by
   have hl:=h.1
   have:=h.2.put (7+j) (.int .i32 x)
   rw[show 7+j=j+7 by omega] at this ⊢
   simpa [QL,List.set_append,hl,hj] using this⟩
end
def Chain (w:World) (b:Nat):Option Addr→List ByteArray→Prop
 | v,[]=>v=none
 | v,p :: t => ∃ (k:Nat) (nx:Option Addr),v=some ⟨k,0,none⟩∧k≠b∧Own w k 203 #[.pointer nx,.string p]∧Chain w b nx t
theorem Chain.stay {w w':World} {b:Nat} (ht:Turned b w w'):∀ {ps:List ByteArray} {v:Option Addr},Chain w b v ps→Chain w' b v ps
 | [],_,h=>h
 | p :: t,v,⟨k,nx,hv,hk,ho,hc⟩=>⟨k,nx,hv,hk,(ht.2.2.2.2 k ho.inside hk).trans ho,hc.stay ht⟩
def flatP:List ByteArray→List UInt8
 | []=>[]
 | p :: t=>flatP t++p.data.toList
def QT (w:World) (b:Nat) (at_ sg lf num cnt fst:Int) (acc:List UInt8):Prop :=
 ∃ (last:Option Addr) (signs:List Int) (loose:Nat) (ps:List ByteArray),QW w b at_ sg lf num cnt fst last signs loose∧Chain w b last ps∧loose≤64∧(∀ v∈signs.take loose,Sgn v)∧(∀ p∈ps,1≤p.size)∧acc=flatP ps++encs (signs.take loose)
def QEnd (w:World) (b:Nat) (at_ sg lf num cnt fst:Int) (acc:List UInt8) (v:Value) (e:Ending) (w':World):Prop :=
 e=.returned v∧QT w' b at_ sg lf num cnt fst acc∧Turned b w w'
theorem take_snoc_set (l:List Int) (k:Nat) (x:Int) (h:k<l.length):(l.set k x).take (k+1)=l.take k++[x]:=by
 rw[List.take_succ_eq_append_getElem (by simpa using h),List.take_set,List.set_eq_of_length_le (by simp;omega)]
 simp
theorem add_room (b:Nat) (at_ sg lf num cnt fst:Int) (last:Option Addr) (signs:List Int) (loose:Nat) (v:Int) (w:World) (h:QW w b at_ sg lf num cnt fst last signs loose) (hl:loose<64) :
   Calls Tryz.prog 146 #[.pointer (some ⟨b,0,none⟩),.int .i32 v] w fun e w'=>e=.returned (.tuple #[])∧QW w' b at_ sg lf num cnt fst last (signs.set loose v) (loose+1)∧Turned b w w':=by
 have c71:=h.c71
 have f71:=h.free 71
 have cs:=h.sign loose hl
 have fs:=h.free (7+loose)
 have gl:((loose:Int)==64)=false:=beq_eq_false_iff_ne.2 (by omega)
 have hl1:(loose:Int)<64:=by omega
 have hl0:(0:Int)≤loose:=by omega
 have H:=hid h
 clear h
 go_enter Tryz.func146,Tryz.ntmps146
 go_wp2
 go_still_tail 9,(by kernel_rfl)
 change wpList _ _ _ _ _ w.drew
 go_wp2
 go_end0
 refine ⟨rfl,?_,?_⟩
 ·exact ((H.out.putS loose hl v).put71 (loose+1)).stay rfl
 ·exact ((Turned.refl b w).put (7+loose) _).put 71 _
theorem conv_runes (w:World) (b:Nat) (at_ sg lf num cnt fst:Int) (last:Option Addr) (signs:List Int) (loose n:Nat) (h:QW w b at_ sg lf num cnt fst last signs loose) (hn:n≤64) (hv:∀ v∈signs.take n,Sgn v) :
   (convert 201 9 (.slice (some ⟨b,7,none⟩) n 64)).run Tryz.prog w=.ok (.string ⟨(encs (signs.take n)).toArray⟩) w:=by
 have hl:=h.1
 have:=run_convert_runes (P:=Tryz.prog) w 201 9 21 ⟨b,7,none⟩ n 64 signs (by omega) Tryz.underlying201 Tryz.underlying21 Tryz.underlying9 (fun j hj=>by
   rw[add_none]
   exact h.sign j (by omega))
 rw[this,runesBytes_encs _ hv]
theorem add_full (b:Nat) (at_ sg lf num cnt fst:Int) (last:Option Addr) (signs:List Int) (v:Int) (w:World) (h:QW w b at_ sg lf num cnt fst last signs 64) (hs:∀ v∈signs,Sgn v) :
   Calls Tryz.prog 146 #[.pointer (some ⟨b,0,none⟩),.int .i32 v] w fun e w'=>e=.returned (.tuple #[]) ∧ ∃ k,w.heap.size≤k∧QW w' b at_ sg lf num cnt fst (some ⟨k,0,none⟩) (signs.set 0 v) 1∧Own w' k 203 #[.pointer last,.string ⟨(encs signs).toArray⟩]∧Turned b w w':=by
 have c71:=h.c71
 have f71:=h.free 71
 have c6:=h.c6
 have f6:=h.free 6
 have f7:=h.free 7
 have hin:=h.inside
 have hl:=h.1
 have hc:=conv_runes w.drew b at_ sg lf num cnt fst last signs 64 64 (h.stay rfl) (Nat.le_refl _) (by rw[List.take_of_length_le (by omega)];exact hs)
 rw[List.take_of_length_le (by omega)] at hc
 have H:=hid h
 clear h hs
 go_enter Tryz.func146,Tryz.ntmps146
 go_wp2
 go_region
 generalize hw2:World.drew (World.alloc _ _)=w2
 have H2:QW w2 b at_ sg lf num cnt fst (some ⟨w.heap.size,0,none⟩) signs 64∧Own w2 w.heap.size 203 #[.pointer last,.string ⟨(encs signs).toArray⟩]∧Turned b w w2:=by
   subst hw2
   refine ⟨?_,?_,?_⟩
   ·exact ((H.out.put6 (some ⟨w.heap.size,0,none⟩))).stay (by
      show (Array.push _ _)[b]?=_
      exact Below.heap_alloc (w.setCell ⟨b,6,none⟩ _) _ b (by simpa [World.setCell] using hin))
   ·have:=Own.fresh (w.setCell ⟨b,6,none⟩ (.pointer (some ⟨w.heap.size,0,none⟩))) 203 #[.pointer last,.string ⟨(encs signs).toArray⟩]
    rw[show (w.setCell ⟨b,6,none⟩ (.pointer (some ⟨w.heap.size,0,none⟩))).heap.size=w.heap.size by simp[World.setCell]] at this
    exact this
   ·have ht:Turned b w (w.setCell ⟨b,6,none⟩ (.pointer (some ⟨w.heap.size,0,none⟩))):=(Turned.refl b w).put 6 _
    exact ht.trans (Turned.of_below (((Below.refl _ _).alloc (Nat.le_refl _) _).drew) rfl)
 have HH:=hid H2.2
 obtain ⟨H2,_⟩:=H2
 clear hw2 hc c71 f71 c6 f6 f7 hin
 have c71:=H2.c71
 have f71:=H2.free 71
 have c7:=H2.sign 0 (by omega)
 have f7:=H2.free 7
 simp only [Nat.add_zero] at c7
 have HQ:=hid H2
 clear H2
 go_wp2
 generalize hw3:w2.setCell ⟨b,71,none⟩ (.int .i64 0)=w3
 have H3:QW w3 b at_ sg lf num cnt fst (some ⟨w.heap.size,0,none⟩) signs 0∧Turned b w2 w3:=by
   subst hw3
   exact ⟨HQ.out.put71 0,(Turned.refl b w2).put 71 _⟩
 clear hw3 c71 f71 c7 f7
 have T3:=hid H3.2
 obtain ⟨H3,_⟩:=H3
 have c71:=H3.c71
 have f71:=H3.free 71
 have c7:=H3.sign 0 (by omega)
 have f7:=H3.free 7
 simp only [Nat.add_zero] at c7
 have HQ3:=hid H3
 clear H3
 go_still_tail 9,(by kernel_rfl)
 change wpList _ _ _ _ _ w3.drew
 go_wp2
 go_end0
 have hne:b≠w.heap.size:=by have:=H.out.inside;omega
 refine ⟨rfl,w.heap.size,Nat.le_refl _,?_,?_,?_⟩
 ·exact (((HQ3.out.putS 0 (by omega) v).put71 1)).stay rfl
 ·have h3:Turned b w2 (((w3.setCell ⟨b,7,none⟩ (.int .i32 v)).setCell ⟨b,71,none⟩ (.int .i64 1))):=(T3.out.put 7 _).put 71 _
  exact (h3.2.2.2.2 w.heap.size HH.out.1.inside (fun e=>hne e.symm)).trans HH.out.1
 ·exact HH.out.2.trans ((T3.out.put 7 _).put 71 _)
theorem QT.turned {w w':World} {b:Nat} {at_ sg lf num cnt fst:Int} {acc:List UInt8} (h:QT w b at_ sg lf num cnt fst acc) (hk:w'.heap[b]?=w.heap[b]?) (ht:Turned b w w'):QT w' b at_ sg lf num cnt fst acc:=by
 obtain ⟨last,signs,loose,ps,hq,hc,r⟩:=h
 exact ⟨last,signs,loose,ps,hq.stay hk,hc.stay ht,r⟩
theorem add_any (b:Nat) (at_ sg lf num cnt fst:Int) (acc:List UInt8) (v:Int) (hv:Sgn v) (w:World) (h:QT w b at_ sg lf num cnt fst acc) :
   Calls Tryz.prog 146 #[.pointer (some ⟨b,0,none⟩),.int .i32 v] w (QEnd w b at_ sg lf num cnt fst (acc++ofB v) (.tuple #[])):=by
 obtain ⟨last,signs,loose,ps,hq,hc,hl,hs,hp,rfl⟩:=h
 have hl64:=hq.1
 by_cases hlt:loose<64
 ·refine (add_room b at_ sg lf num cnt fst last signs loose v w hq hlt).mono ?_
  rintro e w' ⟨rfl,hq',ht⟩
  have e:=take_snoc_set signs loose v (by omega)
  refine ⟨rfl,⟨last,_,_,ps,hq',hc.stay ht,by omega,?_,hp,?_⟩,ht⟩
  ·rw[e]
   intro x hx
   rcases List.mem_append.1 hx with hx|hx
   ·exact hs x hx
   ·simp at hx;subst hx;exact hv
  ·rw[e,encs_snoc,List.append_assoc]
 ·obtain rfl:loose=64:=by omega
  have ht64:signs.take 64=signs:=List.take_of_length_le (by omega)
  rw[ht64] at hs ⊢
  refine (add_full b at_ sg lf num cnt fst last signs v w hq hs).mono ?_
  rintro e w' ⟨rfl,k,hk,hq',ho,ht⟩
  have hin:=hq.inside
  refine ⟨rfl,⟨some ⟨k,0,none⟩,_,1,⟨(encs signs).toArray⟩ :: ps,hq',⟨k,last,rfl,by omega,ho,hc.stay ht⟩,by omega,?_,?_,?_⟩,ht⟩
  ·have e:=take_snoc_set signs 0 v (by omega)
   rw[e]
   intro x hx
   simp at hx
   subst hx
   exact hv
  ·intro p hpm
   rcases List.mem_cons.1 hpm with rfl|hpm
   ·have:=(encs_len signs).1
    show 1≤(encs signs).toArray.size
    simp
    omega
   ·exact hp p hpm
  ·have e:=take_snoc_set signs 0 v (by omega)
   rw[e]
   simp[flatP,encs]
theorem str_info:(Tryz.prog.info? 9).map (fun i=>(i.zero,i.size,i.bytes))=some (some (.string ByteArray.empty),1,16):=by kernel_rfl
def RelText (W:World) (b:Nat) (all:List ByteArray) (k:Nat) (t p:Value) (wr:World):Prop :=
 ∃ (done rest:List ByteArray) (l:Option Addr),wr.ownsRow W.heap.size 9 1 t done.length (done.map Value.string)∧0<done.length∧p=.pointer l∧Chain W b l rest∧Below W.heap.size W wr∧done++rest=all∧rest.length=k
theorem flatP_rev (l:List ByteArray):flatP l=(l.reverse.map (·.data.toList)).flatten:=by
 induction l with
 | nil=>rfl
 | cons p t ih=>simp[flatP,ih]
theorem flatP_len (l:List ByteArray) (h:∀ p∈l,1≤p.size):l.length≤(flatP l).length:=by
 induction l with
 | nil=>simp[flatP]
 | cons p t ih =>
   have h1:=ih (fun q hq=>h q (by simp[hq]))
   have h2:=h p (by simp)
   have h3:p.data.toList.length=p.size:=rfl
   simp[flatP] at h3 ⊢
   omega
theorem ret_s {a b:List UInt8}(h:a=b):Ending.returned (.string ⟨a.toArray⟩)=.returned (.string ⟨b.toArray⟩):=by rw[h]
theorem rev_any (g cap base:Nat) (l:List ByteArray) (w:World) (h:w.ownsRow base 9 1 (.slice (some ⟨g,0,none⟩) l.length cap) l.length (l.map Value.string)) (hl:l.length≤140737488355328) :
   Calls Tryz.prog 141 #[.slice (some ⟨g,0,none⟩) l.length cap] w fun e w'=>e=.returned (.tuple #[])∧w'.ownsRow base 9 1 (.slice (some ⟨g,0,none⟩) l.length cap) l.length (l.reverse.map Value.string) ∧ ∀ (B:Nat) (w0:World),B≤g→Below B w0 w→Below B w0 w':=by
 have e:l.map Value.string=(l.map (·.data.toList)).map encStr:=(Lib.map_encStr l).symm
 rw[e] at h
 obtain ⟨g',cap',hv,_,_,_,_,hzl,hH⟩:=Lib.holds_of_ownsRow h (by intro e;cases e)
 injection hv with h1 _ h3
 injection h1 with h1
 injection h1 with h1
 subst h1 h3
 have hr:=Tryz.slices_Reverse_string g 0 cap (l.map (·.data.toList)) w hH (by simp;omega)
 rw[List.length_map] at hr
 refine hr.mono ?_
 rintro e w' ⟨rfl,q,rfl⟩
 refine ⟨rfl,?_,fun B w0 hB hb=>Lib.below_putRow hb hB⟩
 have:=Lib.ownsRow_putRow (q:=q) (k:=l.length) h (ys:=(l.map (·.data.toList)).reverse) (by simp) (Nat.le_refl _)
 have e2:(l.map (·.data.toList)).reverse.map encStr=l.reverse.map Value.string:=by rw[← List.map_reverse,Lib.map_encStr]
 rw[List.take_of_length_le (by simp),e2] at this
 exact this
theorem join_flat (xs:List (List UInt8)):Lib.join xs []=xs.flatten:=by
 unfold Lib.join
 induction xs with
 | nil=>rfl
 | cons x t ih =>
   cases t with
   | nil=>simp[List.intercalate]
   | cons y t =>
     have e:List.intercalate [] (x :: y :: t)=x++List.intercalate [] (y :: t):=by simp[List.intercalate,List.intersperse]
     rw[e,ih]
     simp
theorem joinNone_any (g cap base:Nat) (l:List ByteArray) (w:World) (h:w.ownsRow base 9 1 (.slice (some ⟨g,0,none⟩) l.length cap) l.length (l.map Value.string)) (hl:((l.map (·.data.toList)).flatten).length≤140737488355328) (hn:l.length≤140737488355328) :
   Calls Tryz.prog 142 #[.slice (some ⟨g,0,none⟩) l.length cap,.string ⟨#[]⟩] w fun e w'=>e=.returned (.string ⟨((l.map (·.data.toList)).flatten).toArray⟩)∧Below w.heap.size w w':=by
 have hc:=h.cells (g:=g) rfl
 rcases h.2 with ⟨e0,_⟩|⟨g',cap',cur,hv,hb,hg,hn1,hm,hs,ht⟩
 ·cases e0
 injection hv with h1 _ h3
 injection h1 with h1
 injection h1 with h1
 subst h1 h3
 have hj:=Tryz.strings_Join g 0 cap l ⟨#[]⟩ w (fun j x hx=>by
   have:=hc j (.string x) (by rw[List.getElem?_map,hx];rfl)
   rw[add_none] at this
   exact this) (Array.getElem?_eq_some_iff.1 hg).1 hn hn1 (by rw[show (ByteArray.mk #[]).data.toList=[] from rfl,join_flat];exact hl)
 rw[show (ByteArray.mk #[]).data.toList=[] from rfl,join_flat] at hj
 exact hj
theorem text_any (b:Nat) (at_ sg lf num cnt fst:Int) (acc:List UInt8) (W:World) (h:QT W b at_ sg lf num cnt fst acc) (hacc:acc.length≤1000000000000) :
   Calls Tryz.prog 131 #[.pointer (some ⟨b,0,none⟩)] W fun e w'=>e=.returned (.string ⟨acc.toArray⟩)∧Below W.heap.size W w':=by
 obtain ⟨last,signs,loose,ps,hq,hc,hl,hs,hp,rfl⟩:=h
 have hl64:=hq.1
 have c71:=hq.c71
 have c6:=hq.c6
 have hin:=hq.inside
 have hcv:=conv_runes W.drew b at_ sg lf num cnt fst last signs loose loose (hq.stay rfl) hl hs
 generalize hx:encs (signs.take loose)=x at *
 have hl1:(loose:Int)≤64:=by omega
 have hl0:(0:Int)≤loose:=by omega
 have HC:=hid hc
 have HP:=hid hp
 have HA:=hid hacc
 clear hc hp hacc hs hx hq hl64
 go_enter Tryz.func131,Tryz.ntmps131
 go_wp2
 go_region
 obtain ⟨i0,hi,hz0,hz1,hz2⟩:=info_parts str_info
 go_wp2
 go_loopg [3,4] ps.length (fun k t p wr=>RelText W b (⟨x.toArray⟩ :: ps) k t p wr)
 case atStart =>
   refine ⟨[⟨x.toArray⟩],ps,last,?_,by simp,rfl,HC.out,(below1 W _).drew,rfl,rfl⟩
   refine ⟨rfl,.inr ⟨W.heap.size,1,#[.string ⟨x.toArray⟩],rfl,Nat.le_refl _,?_,by simp,by simp[maxLen],rfl,rfl⟩⟩
   exact Own.fresh W 9 #[.string ⟨x.toArray⟩]
 case round =>
   obtain ⟨done,rest,l,hown,hd,rfl,hch,hbel,hall,hk⟩:=hrel
   cases rest with
   | cons q rest =>
     obtain ⟨g,nx,rfl,hgb,ho,hch⟩:=hch
     have ho1:=ho.stay hbel ho.inside
     have hgin:=ho.inside
     have d0:=ho1.at 0
     have d1:=ho1.at 1
     simp at d0 d1
     have HO:=hid ho
     have HD:=hid hch
     have HALL:=hid hall
     have HB:=hid hbel
     have hsz:=hbel.size
     have hdl:done.length≤1000000000001:=by
       have h1:=flatP_len ps HP.out
       have h2:=HA.out
       have h3:=congrArg List.length hall
       simp at h2 h3
       omega
     clear ho ho1 hch hall hbel
     go_wp2_with (at_builtin;refine wpList_append_own _ rfl _ _ 27 rfl W.heap.size 9 i0 (.string ByteArray.empty) 1 16 Tryz.underlying27 hi hz0 hz1 hz2 rfl (by decide) _ _ _ rfl (hown.alloc _) ⟨wr.heap.size,0,none⟩ 1 1 [.string q] rfl rfl ?c1 ?c2 ?c3 ?c4 ?c5 ?_)
     case c1 =>
       intro j u hj
       match j,hj with
       | 0,hj=>simp at hj;subst hj;simp[Addr.add]
       | (j+1),hj=>simp at hj
     case c2=>intro u hu;simp at hu;subst hu;rfl
     case c3=>unfold maxLen;omega
     case c4=>omega
     case c5=>simp;omega
     intro v' w2 hown' hgrow _
     have hb2:Below W.heap.size W w2:=(HB.out.alloc hsz _).grown hgrow (by simp;omega) (fun k hk=>(hown.lt k hk).1)
     have ho2:=HO.out.stay hb2 hgin
     have d0:=ho2.at 0
     have d1:=ho2.at 1
     simp at d0 d1
     have HR:=hid (show RelText W b (⟨x.toArray⟩ :: ps) rest.length v' (.pointer nx) w2 from ⟨done++[q],rest,nx,by simpa using hown',by simp,rfl,HD.out,hb2,by rw[List.append_assoc];exact HALL.out,rfl⟩)
     clear hb2 ho2 hown' hgrow hown
     go_wp2
     go_roundg rest.length
     case measure=>simp at hk;omega
     case rel=>exact HR.out
   | nil =>
     have hl0:l=none:=hch
     subst hl0
     rw[List.append_nil] at hall
     have hfl:((done.reverse.map (·.data.toList)).flatten)=flatP ps++x:=by
       rw[← flatP_rev,hall]
       rfl
     have hdl:done.length≤1000000000001:=by
       have h1:=flatP_len ps HP.out
       have h2:=HA.out
       have h3:=congrArg List.length hall
       simp at h2 h3
       omega
     have HFL:=hid hfl
     rw[← hfl] at HA
     rcases hown.2 with ⟨_,h0⟩|⟨g,cap,cur,rfl,_⟩
     ·omega
     have hgB:=(hown.lt g rfl).1
     have HR:=hid (rev_any g cap W.heap.size done wr hown (by omega))
     have HB:=hid hbel
     clear hown hall hfl hch hbel hcv
     go_wp2_with (first
       | (go_at_call 141;refine HR.out.mono ?_;rintro e w2 ⟨rfl,hown2,hb2⟩;have HB2:=hid (hb2 W.heap.size W hgB HB.out);have HJ:=joinNone_any g cap W.heap.size done.reverse w2 (by rw[List.length_reverse];exact hown2) (by have:=HA.out;omega) (by simp;omega);rw[List.length_reverse] at HJ;replace HJ:=hid HJ;clear hown2 hb2)
       | (go_at_call 142;refine HJ.out.mono ?_;rintro e w3 ⟨rfl,hb3⟩))
     go_ret
     exact ⟨ret_s (by rw[← HFL.out,List.map_reverse]),HB2.out.trans (hb3.mono HB2.out.size)⟩
end
section
open Go.RowKit
theorem two_eq {w:World} {b:Nat} {x x' y y':Int} (e:x=x') (f:y=y'):(w.setCell ⟨b,1,none⟩ (.int .i32 x)).setCell ⟨b,2,none⟩ (.int .i64 y)=(w.setCell ⟨b,1,none⟩ (.int .i32 x')).setCell ⟨b,2,none⟩ (.int .i64 y'):=by
 subst e f;rfl
theorem qwithin_any (b:Nat) (sg lf:Int) (w:World) (c0:w.cell? ⟨b,1,none⟩=some (.int .i32 sg)) (c1:w.cell? ⟨b,2,none⟩=some (.int .i64 lf)) (f0:w.frozen? ⟨b,1,none⟩=false) (f1:w.frozen? ⟨b,2,none⟩=false) :
   Calls Tryz.prog 52 #[.pointer (some ⟨b,1,none⟩)] w fun e w'=>e=.returned (.bool (decide (0<lf)))∧w=w':=by
 go_enter Tryz.func52,Tryz.ntmps52
 go_wp2
 go_ret
 exact ⟨rfl,rfl⟩
theorem qsign_any (b:Nat) (sg lf:Int) (w:World) (c0:w.cell? ⟨b,1,none⟩=some (.int .i32 sg)) (c1:w.cell? ⟨b,2,none⟩=some (.int .i64 lf)) (f0:w.frozen? ⟨b,1,none⟩=false) (f1:w.frozen? ⟨b,2,none⟩=false) :
   Calls Tryz.prog 147 #[.pointer (some ⟨b,1,none⟩)] w fun e w'=>e=.returned (.int .i32 (if 0<lf then 0 else sg))∧w=w':=by
 by_cases hl:0<lf
 all_goals
   go_enter Tryz.func147,Tryz.ntmps147
   go_wp2_with (go_at_call 52;refine (qwithin_any _ _ _ _ c0 c1 f0 f1).mono ?_;rintro e w' ⟨rfl,rfl⟩)
   go_ret
   exact ⟨rfl,rfl⟩
theorem qnext_any (b:Nat) (sg lf:Int) (w:World) (c0:w.cell? ⟨b,1,none⟩=some (.int .i32 sg)) (c1:w.cell? ⟨b,2,none⟩=some (.int .i64 lf)) (f0:w.frozen? ⟨b,1,none⟩=false) (f1:w.frozen? ⟨b,2,none⟩=false) :
   Calls Tryz.prog 80 #[.pointer (some ⟨b,1,none⟩)] w fun e w'=>e=.returned (.tuple #[.int .u8 (lowU sg lf),.int .u8 (highU sg lf)])∧w=w':=by
 by_cases h2:lf=2
 ·subst h2
  by_cases h0:sg=0
  ·subst h0
   go_enter Tryz.func80,Tryz.ntmps80
   go_wp2
   go_ret2
   exact ⟨rfl,rfl⟩
  ·have e0:(sg==0)=false:=beq_eq_false_iff_ne.2 h0
   by_cases h13:sg=13
   ·subst h13
    go_enter Tryz.func80,Tryz.ntmps80
    go_wp2
    go_ret2
    exact ⟨rfl,rfl⟩
   ·have e13:(sg==13)=false:=beq_eq_false_iff_ne.2 h13
    go_enter Tryz.func80,Tryz.ntmps80
    go_wp2
    go_ret2
    exact ⟨by simp[lowU,highU,h0,h13],rfl⟩
 ·have e2:(lf==2)=false:=beq_eq_false_iff_ne.2 h2
  by_cases h3:lf=3
  ·subst h3
   by_cases h0:sg=0
   ·subst h0
    go_enter Tryz.func80,Tryz.ntmps80
    go_wp2
    go_ret2
    exact ⟨rfl,rfl⟩
   ·have e0:(sg==0)=false:=beq_eq_false_iff_ne.2 h0
    by_cases h4:sg=4
    ·subst h4
     go_enter Tryz.func80,Tryz.ntmps80
     go_wp2
     go_ret2
     exact ⟨rfl,rfl⟩
    ·have e4:(sg==4)=false:=beq_eq_false_iff_ne.2 h4
     go_enter Tryz.func80,Tryz.ntmps80
     go_wp2
     go_ret2
     exact ⟨by simp[lowU,highU,h0,h4],rfl⟩
  ·have e3:(lf==3)=false:=beq_eq_false_iff_ne.2 h3
   go_enter Tryz.func80,Tryz.ntmps80
   go_wp2
   go_ret2
   exact ⟨by simp[lowU,highU,h2,h3],rfl⟩
theorem qbegin_yes (b:Nat) (c sg lf:Int) (w:World) (c0:w.cell? ⟨b,1,none⟩=some (.int .i32 sg)) (c1:w.cell? ⟨b,2,none⟩=some (.int .i64 lf)) (f0:w.frozen? ⟨b,1,none⟩=false) (f1:w.frozen? ⟨b,2,none⟩=false) (h0:0≤c) (hk:c<128∨194≤c∧c<245) :
   Calls Tryz.prog 79 #[.pointer (some ⟨b,1,none⟩),.int .u8 c] w fun e w'=>e=.returned (.bool true)∧w'=(w.setCell ⟨b,1,none⟩ (.int .i32 (sgU sg 0 c))).setCell ⟨b,2,none⟩ (.int .i64 (lfU 0 c)):=by
 have hh:(c<128)∨(194≤c∧c<224)∨(224≤c∧c<240)∨(240≤c∧c<245):=by omega
 rcases hh with hh|⟨h1,h2⟩|⟨h1,h2⟩|⟨h1,h2⟩
 all_goals
   go_enter Tryz.func79,Tryz.ntmps79
   go_wp2
   go_ret
   exact ⟨rfl,two_eq (by simp[sgU]<;>(repeat' split)<;>omega) (by simp[lfU]<;>(repeat' split)<;>omega)⟩
theorem qbegin_no (b:Nat) (c:Int) (w:World) (hk:¬ (c<128∨194≤c∧c<245)) :
   Calls Tryz.prog 79 #[.pointer (some ⟨b,1,none⟩),.int .u8 c] w fun e w'=>e=.returned (.bool false)∧w=w':=by
 have hh:(128≤c∧c<194)∨245≤c:=by omega
 clear hk
 rcases hh with ⟨h1,h2⟩|h1
 all_goals
   go_enter Tryz.func79,Tryz.ntmps79
   go_wp2
   go_ret
   exact ⟨rfl,rfl⟩
theorem qstep_yes (b:Nat) (c sg lf:Int) (w:World) (c0:w.cell? ⟨b,1,none⟩=some (.int .i32 sg)) (c1:w.cell? ⟨b,2,none⟩=some (.int .i64 lf)) (f0:w.frozen? ⟨b,1,none⟩=false) (f1:w.frozen? ⟨b,2,none⟩=false) (hs:StU sg lf) (h0:0≤c) (hk:okU sg lf c=true) :
   Calls Tryz.prog 51 #[.pointer (some ⟨b,1,none⟩),.int .u8 c] w fun e w'=>e=.returned (.bool true)∧w'=(w.setCell ⟨b,1,none⟩ (.int .i32 (sgU sg lf c))).setCell ⟨b,2,none⟩ (.int .i64 (lfU lf c)):=by
 by_cases hl:lf=0
 ·subst hl
  have hk':=okU_zero hk
  clear hk
  have HB:=hid (qbegin_yes b c sg 0 w c0 c1 f0 f1 h0 hk')
  clear hk'
  go_enter Tryz.func51,Tryz.ntmps51
  go_wp2_with (go_at_call 79;refine HB.out.mono ?_;rintro e w' ⟨rfl,rfl⟩)
  go_ret
  exact ⟨rfl,rfl⟩
 ·have el:(lf==0)=false:=beq_eq_false_iff_ne.2 hl
  have e1:sgU sg lf c=sg*64+(c-128):=by unfold sgU;rw[if_neg hl]
  have e2:lfU lf c=lf-1:=by unfold lfU;rw[if_neg hl]
  rw[e1,e2]
  obtain ⟨hk1,hk2⟩:=okU_more hl hk
  obtain ⟨hk3,hk4⟩:=okU_bd hl hk
  have g1:=lowU_in sg lf
  have g2:=highU_in sg lf
  have s0:0≤sg:=hs.1
  have s9:sg≤17407:=by unfold StU at hs;omega
  have l0:1≤lf:=by unfold StU at hs;omega
  have l9:lf≤3:=by unfold StU at hs;omega
  clear hs hk hl e1 e2
  have HN:=hid (qnext_any b sg lf w c0 c1 f0 f1)
  generalize lowU sg lf=lo at *
  generalize highU sg lf=hi at *
  go_enter Tryz.func51,Tryz.ntmps51
  go_wp2_with (go_at_call 80;refine HN.out.mono ?_;rintro e w' ⟨rfl,rfl⟩)
  go_ret
  exact ⟨rfl,two_eq (by omega) rfl⟩
theorem qstep_no (b:Nat) (c sg lf:Int) (w:World) (c0:w.cell? ⟨b,1,none⟩=some (.int .i32 sg)) (c1:w.cell? ⟨b,2,none⟩=some (.int .i64 lf)) (f0:w.frozen? ⟨b,1,none⟩=false) (f1:w.frozen? ⟨b,2,none⟩=false) (hk:okU sg lf c=false) :
   Calls Tryz.prog 51 #[.pointer (some ⟨b,1,none⟩),.int .u8 c] w fun e w'=>e=.returned (.bool false)∧w=w':=by
 by_cases hl:lf=0
 ·subst hl
  have hk':¬ (c<128∨194≤c∧c<245):=by
    unfold okU at hk
    rw[if_pos rfl] at hk
    exact of_decide_eq_false hk
  clear hk
  have HB:=hid (qbegin_no b c w hk')
  clear hk'
  go_enter Tryz.func51,Tryz.ntmps51
  go_wp2_with (go_at_call 79;refine HB.out.mono ?_;rintro e w' ⟨rfl,rfl⟩)
  go_ret
  exact ⟨rfl,rfl⟩
 ·have el:(lf==0)=false:=beq_eq_false_iff_ne.2 hl
  have hk':¬ (lowU sg lf≤c∧c≤highU sg lf):=by
    unfold okU at hk
    rw[if_neg hl] at hk
    exact of_decide_eq_false hk
  clear hk
  have HN:=hid (qnext_any b sg lf w c0 c1 f0 f1)
  generalize lowU sg lf=lo at *
  generalize highU sg lf=hi at *
  by_cases hlo:c<lo
  ·clear hk' hl
   go_enter Tryz.func51,Tryz.ntmps51
   go_wp2_with (go_at_call 80;refine HN.out.mono ?_;rintro e w' ⟨rfl,rfl⟩)
   go_ret
   exact ⟨rfl,rfl⟩
  ·have hhi:hi<c:=by omega
   have hlo':lo≤c:=by omega
   clear hk' hl hlo
   go_enter Tryz.func51,Tryz.ntmps51
   go_wp2_with (go_at_call 80;refine HN.out.mono ?_;rintro e w' ⟨rfl,rfl⟩)
   go_ret
   exact ⟨rfl,rfl⟩
end
section
open Go.RowKit
section
variable {w w':World} {b:Nat} {at_ sg lf num cnt fst:Int} {acc:List UInt8}
theorem QT.inside (h:QT w b at_ sg lf num cnt fst acc):b<w.heap.size:=by
 obtain ⟨last,signs,loose,ps,hq,_⟩:=h
 exact hq.inside
theorem QT.free (h:QT w b at_ sg lf num cnt fst acc) (i:Nat):w.frozen? ⟨b,i,none⟩=false:=by
 obtain ⟨last,signs,loose,ps,hq,_⟩:=h
 exact hq.free i
theorem QT.c0 (h:QT w b at_ sg lf num cnt fst acc):w.cell? ⟨b,0,none⟩=some (.int .i64 at_):=by
 obtain ⟨last,signs,loose,ps,hq,_⟩:=h
 exact hq.c0
theorem QT.c1 (h:QT w b at_ sg lf num cnt fst acc):w.cell? ⟨b,1,none⟩=some (.int .i32 sg):=by
 obtain ⟨last,signs,loose,ps,hq,_⟩:=h
 exact hq.c1
theorem QT.c2 (h:QT w b at_ sg lf num cnt fst acc):w.cell? ⟨b,2,none⟩=some (.int .i64 lf):=by
 obtain ⟨last,signs,loose,ps,hq,_⟩:=h
 exact hq.c2
theorem QT.c3 (h:QT w b at_ sg lf num cnt fst acc):w.cell? ⟨b,3,none⟩=some (.int .i64 num):=by
 obtain ⟨last,signs,loose,ps,hq,_⟩:=h
 exact hq.c3
theorem QT.c4 (h:QT w b at_ sg lf num cnt fst acc):w.cell? ⟨b,4,none⟩=some (.int .i64 cnt):=by
 obtain ⟨last,signs,loose,ps,hq,_⟩:=h
 exact hq.c4
theorem QT.c5 (h:QT w b at_ sg lf num cnt fst acc):w.cell? ⟨b,5,none⟩=some (.int .i64 fst):=by
 obtain ⟨last,signs,loose,ps,hq,_⟩:=h
 exact hq.c5
theorem QT.put0 (h:QT w b at_ sg lf num cnt fst acc) (x:Int):QT (w.setCell ⟨b,0,none⟩ (.int .i64 x)) b x sg lf num cnt fst acc:=by
 obtain ⟨last,signs,loose,ps,hq,hc,r⟩:=h
 exact ⟨last,signs,loose,ps,hq.put0 x,hc.stay ((Turned.refl b w).put 0 _),r⟩
theorem QT.put1 (h:QT w b at_ sg lf num cnt fst acc) (x:Int):QT (w.setCell ⟨b,1,none⟩ (.int .i32 x)) b at_ x lf num cnt fst acc:=by
 obtain ⟨last,signs,loose,ps,hq,hc,r⟩:=h
 exact ⟨last,signs,loose,ps,hq.put1 x,hc.stay ((Turned.refl b w).put 1 _),r⟩
theorem QT.put2 (h:QT w b at_ sg lf num cnt fst acc) (x:Int):QT (w.setCell ⟨b,2,none⟩ (.int .i64 x)) b at_ sg x num cnt fst acc:=by
 obtain ⟨last,signs,loose,ps,hq,hc,r⟩:=h
 exact ⟨last,signs,loose,ps,hq.put2 x,hc.stay ((Turned.refl b w).put 2 _),r⟩
theorem QT.put3 (h:QT w b at_ sg lf num cnt fst acc) (x:Int):QT (w.setCell ⟨b,3,none⟩ (.int .i64 x)) b at_ sg lf x cnt fst acc:=by
 obtain ⟨last,signs,loose,ps,hq,hc,r⟩:=h
 exact ⟨last,signs,loose,ps,hq.put3 x,hc.stay ((Turned.refl b w).put 3 _),r⟩
theorem QT.put4 (h:QT w b at_ sg lf num cnt fst acc) (x:Int):QT (w.setCell ⟨b,4,none⟩ (.int .i64 x)) b at_ sg lf num x fst acc:=by
 obtain ⟨last,signs,loose,ps,hq,hc,r⟩:=h
 exact ⟨last,signs,loose,ps,hq.put4 x,hc.stay ((Turned.refl b w).put 4 _),r⟩
theorem QT.put5 (h:QT w b at_ sg lf num cnt fst acc) (x:Int):QT (w.setCell ⟨b,5,none⟩ (.int .i64 x)) b at_ sg lf num cnt x acc:=by
 obtain ⟨last,signs,loose,ps,hq,hc,r⟩:=h
 exact ⟨last,signs,loose,ps,hq.put5 x,hc.stay ((Turned.refl b w).put 5 _),r⟩
end
def CellsQ:QSt→Int→Int→Int→Int→Int→Int→Prop
 | .plain,a,sg,lf,num,cnt,fst=>a=0∧lf=0∧num=0∧cnt=0∧fst=0
 | .sign s l p,a,sg,lf,num,cnt,fst=>a=0∧sg=s∧lf=l∧num=0∧cnt=0∧fst=0∧0<l∧InvL p s l
 | .esc,a,sg,lf,num,cnt,fst=>a=1∧lf=0∧num=0∧cnt=0∧fst=0
 | .hex k v,a,sg,lf,num,cnt,fst=>a=2∧lf=0∧num=v∧cnt=k∧fst=0
 | .half h,a,sg,lf,num,cnt,fst=>a=3∧lf=0∧num=0∧cnt=0∧fst=h
 | .hesc h,a,sg,lf,num,cnt,fst=>a=4∧lf=0∧num=0∧cnt=0∧fst=h
 | .hhex h k v,a,sg,lf,num,cnt,fst=>a=2∧lf=0∧num=v∧cnt=k∧fst=h
 | .done,a,sg,lf,num,cnt,fst=>a=5∧lf=0∧num=0∧cnt=0∧fst=0
def IsQ (w:World)(b:Nat)(st:QSt)(acc:List UInt8):Prop:=WQ st ∧ ∃ a sg lf num cnt fst,QT w b a sg lf num cnt fst acc∧CellsQ st a sg lf num cnt fst∧StU sg lf
theorem isQ_mk {w:World}{b:Nat}{st:QSt}{acc:List UInt8}{a sg lf num cnt fst:Int}(hw:WQ st)(h:QT w b a sg lf num cnt fst acc)(hc:CellsQ st a sg lf num cnt fst)(hs:StU sg lf):IsQ w b st acc:=⟨hw,a,sg,lf,num,cnt,fst,h,hc,hs⟩
section
variable (w:World) (b:Nat) (at_ sg lf num cnt fst:Int) (acc:List UInt8)
theorem uwithin (h:QT w b at_ sg lf num cnt fst acc):Calls Tryz.prog 52 #[.pointer (some ⟨b,1,none⟩)] w fun e w'=>e=.returned (.bool (decide (0<lf)))∧w=w' :=
 qwithin_any b sg lf w h.c1 h.c2 (h.free 1) (h.free 2)
theorem usign (h:QT w b at_ sg 0 num cnt fst acc):Calls Tryz.prog 147 #[.pointer (some ⟨b,1,none⟩)] w fun e w'=>e=.returned (.int .i32 sg)∧w=w':=by
 have:=qsign_any b sg 0 w h.c1 h.c2 (h.free 1) (h.free 2)
 rw[if_neg (by omega)] at this
 exact this
theorem ustep_yes (c:UInt8) (h:QT w b at_ sg lf num cnt fst acc) (hs:StU sg lf) (hk:okU sg lf c.toNat=true) :
   Calls Tryz.prog 51 #[.pointer (some ⟨b,1,none⟩),.int .u8 c.toNat] w fun e w'=>e=.returned (.bool true)∧QT w' b at_ (sgU sg lf c.toNat) (lfU lf c.toNat) num cnt fst acc∧Turned b w w':=by
 refine (qstep_yes b c.toNat sg lf w h.c1 h.c2 (h.free 1) (h.free 2) hs (Int.natCast_nonneg _) hk).mono ?_
 rintro e w' ⟨rfl,rfl⟩
 exact ⟨rfl,(h.put1 _).put2 _,((Turned.refl b w).put 1 _).put 2 _⟩
theorem ustep_no (c:UInt8) (h:QT w b at_ sg lf num cnt fst acc) (hk:okU sg lf c.toNat=false) :
   Calls Tryz.prog 51 #[.pointer (some ⟨b,1,none⟩),.int .u8 c.toNat] w fun e w'=>e=.returned (.bool false)∧w=w' :=
 qstep_no b c.toNat sg lf w h.c1 h.c2 (h.free 1) (h.free 2) hk
end
theorem okU_any (sg sg':Int)(c:Int):okU sg 0 c=okU sg' 0 c:=by unfold okU;rw[if_pos rfl,if_pos rfl]
theorem sgU_any (sg sg':Int)(c:Int):sgU sg 0 c=sgU sg' 0 c:=by unfold sgU;rw[if_pos rfl,if_pos rfl]
theorem between_mark (w:World) (b:Nat) (sg num cnt fst:Int) (acc:List UInt8) (h:QT w b 0 sg 0 num cnt fst acc) :
   Calls Tryz.prog 137 #[.pointer (some ⟨b,0,none⟩),.int .u8 34] w fun e w'=>e=.returned (.int .i64 1)∧QT w' b 5 sg 0 num cnt fst acc∧Turned b w w':=by
 have c0:=h.c0
 have f0:=h.free 0
 have HW:=hid (uwithin w b 0 sg 0 num cnt fst acc h)
 have H:=hid h
 clear h
 go_enter Tryz.func137,Tryz.ntmps137
 go_wp2_with (go_at_call 52;refine HW.out.mono ?_;rintro e w' ⟨rfl,rfl⟩)
 go_ret
 exact ⟨rfl,H.out.put0 5,(Turned.refl b w).put 0 _⟩
theorem between_slash (w:World) (b:Nat) (sg num cnt fst:Int) (acc:List UInt8) (h:QT w b 0 sg 0 num cnt fst acc) :
   Calls Tryz.prog 137 #[.pointer (some ⟨b,0,none⟩),.int .u8 92] w fun e w'=>e=.returned (.int .i64 0)∧QT w' b 1 sg 0 num cnt fst acc∧Turned b w w':=by
 have c0:=h.c0
 have f0:=h.free 0
 have HW:=hid (uwithin w b 0 sg 0 num cnt fst acc h)
 have H:=hid h
 clear h
 go_enter Tryz.func137,Tryz.ntmps137
 go_wp2_with (go_at_call 52;refine HW.out.mono ?_;rintro e w' ⟨rfl,rfl⟩)
 go_ret
 exact ⟨rfl,H.out.put0 1,(Turned.refl b w).put 0 _⟩
theorem between_low (w:World) (b:Nat) (sg num cnt fst:Int) (acc:List UInt8) (c:Int) (hc:c<32) (h:QT w b 0 sg 0 num cnt fst acc) :
   Calls Tryz.prog 137 #[.pointer (some ⟨b,0,none⟩),.int .u8 c] w fun e w'=>e=.returned (.int .i64 7)∧w=w':=by
 have HW:=hid (uwithin w b 0 sg 0 num cnt fst acc h)
 have g1:(c==34)=false:=beq_eq_false_iff_ne.2 (by omega)
 have g2:(c==92)=false:=beq_eq_false_iff_ne.2 (by omega)
 clear h
 go_enter Tryz.func137,Tryz.ntmps137
 go_wp2_with (go_at_call 52;refine HW.out.mono ?_;rintro e w' ⟨rfl,rfl⟩)
 go_ret
 exact ⟨rfl,rfl⟩
def Free (lf c:Int):Prop:=0<lf∨(c≠34∧c≠92∧32≤c)
theorem between_bad (w:World) (b:Nat) (sg lf num cnt fst:Int) (acc:List UInt8) (c:UInt8) (hf:Free lf c.toNat) (hk:okU sg lf c.toNat=false) (h:QT w b 0 sg lf num cnt fst acc) :
   Calls Tryz.prog 137 #[.pointer (some ⟨b,0,none⟩),.int .u8 c.toNat] w fun e w'=>e=.returned (.int .i64 2)∧w=w':=by
 have HW:=uwithin w b 0 sg lf num cnt fst acc h
 have HS:=hid (ustep_no w b 0 sg lf num cnt fst acc c h hk)
 clear h hk
 by_cases hl:0<lf
 ·rw [decide_eq_true hl] at HW
  replace HW:=hid HW
  go_enter Tryz.func137,Tryz.ntmps137
  go_wp2_with (first
    | (go_at_call 52;refine HW.out.mono ?_;rintro e w' ⟨rfl,rfl⟩)
    | (go_at_call 51;refine HS.out.mono ?_;rintro e w' ⟨rfl,rfl⟩))
  go_ret
  exact ⟨rfl,rfl⟩
 ·rw [decide_eq_false hl] at HW
  replace HW:=hid HW
  obtain ⟨h1,h2,h3⟩:=hf.resolve_left hl
  have g1:((c.toNat:Int)==34)=false:=beq_eq_false_iff_ne.2 h1
  have g2:((c.toNat:Int)==92)=false:=beq_eq_false_iff_ne.2 h2
  go_enter Tryz.func137,Tryz.ntmps137
  go_wp2_with (first
    | (go_at_call 52;refine HW.out.mono ?_;rintro e w' ⟨rfl,rfl⟩)
    | (go_at_call 51;refine HS.out.mono ?_;rintro e w' ⟨rfl,rfl⟩))
  go_ret
  exact ⟨rfl,rfl⟩
theorem between_ok (w:World) (b:Nat) (sg lf num cnt fst:Int) (acc:List UInt8) (c:UInt8) (hf:Free lf c.toNat) (hs:StU sg lf) (hk:okU sg lf c.toNat=true) (hsg:lfU lf c.toNat=0→Sgn (sgU sg lf c.toNat)) (h:QT w b 0 sg lf num cnt fst acc) :
   Calls Tryz.prog 137 #[.pointer (some ⟨b,0,none⟩),.int .u8 c.toNat] w fun e w'=>e=.returned (.int .i64 0)∧QT w' b 0 (sgU sg lf c.toNat) (lfU lf c.toNat) num cnt fst (if lfU lf c.toNat=0 then acc++ofB (sgU sg lf c.toNat) else acc)∧Turned b w w':=by
 have HW:=uwithin w b 0 sg lf num cnt fst acc h
 have HS:=hid (ustep_yes w b 0 sg lf num cnt fst acc c h hs hk)
 have hst:=(stU_step hs (Int.natCast_nonneg _) hk).2
 generalize sgU sg lf c.toNat=x at *
 generalize lfU lf c.toNat=y at *
 have HG:=hid hsg
 have ty:True:=trivial
 clear h hk hs hsg
 by_cases hy:y=0
 ·subst hy
  rw[if_pos rfl]
  have hv:=HG.out rfl
  by_cases hl:0<lf
  ·rw [decide_eq_true hl] at HW
   replace HW:=hid HW
   go_enter Tryz.func137,Tryz.ntmps137
   go_wp2_with (first
     | (go_at_call 52;clear ty;refine HW.out.mono ?_;rintro e w' ⟨rfl,rfl⟩)
     | (go_at_call 51;refine HS.out.mono ?_;rintro e w1 ⟨rfl,h1,t1⟩;have H1:=hid h1;have T1:=hid t1;clear h1 t1)
     | (go_at_call 52;refine (uwithin _ _ _ _ _ _ _ _ _ H1.out).mono ?_;rintro e w' ⟨rfl,rfl⟩)
     | (go_at_call 147;refine (usign _ _ _ _ _ _ _ _ H1.out).mono ?_;rintro e w' ⟨rfl,rfl⟩)
     | (go_at_call 146;refine (add_any _ _ _ _ _ _ _ _ _ hv _ H1.out).mono ?_;rintro e w2 ⟨rfl,h2,t2⟩))
   go_ret
   exact ⟨rfl,h2,T1.out.trans t2⟩
  ·rw [decide_eq_false hl] at HW
   replace HW:=hid HW
   obtain ⟨h1,h2,h3⟩:=hf.resolve_left hl
   have g1:((c.toNat:Int)==34)=false:=beq_eq_false_iff_ne.2 h1
   have g2:((c.toNat:Int)==92)=false:=beq_eq_false_iff_ne.2 h2
   go_enter Tryz.func137,Tryz.ntmps137
   go_wp2_with (first
     | (go_at_call 52;clear ty;refine HW.out.mono ?_;rintro e w' ⟨rfl,rfl⟩)
     | (go_at_call 51;refine HS.out.mono ?_;rintro e w1 ⟨rfl,h1,t1⟩;have H1:=hid h1;have T1:=hid t1;clear h1 t1)
     | (go_at_call 52;refine (uwithin _ _ _ _ _ _ _ _ _ H1.out).mono ?_;rintro e w' ⟨rfl,rfl⟩)
     | (go_at_call 147;refine (usign _ _ _ _ _ _ _ _ H1.out).mono ?_;rintro e w' ⟨rfl,rfl⟩)
     | (go_at_call 146;refine (add_any _ _ _ _ _ _ _ _ _ hv _ H1.out).mono ?_;rintro e w2 ⟨rfl,h2,t2⟩))
   go_ret
   exact ⟨rfl,h2,T1.out.trans t2⟩
 ·have hy0:0<y:=by omega
  rw[if_neg hy]
  by_cases hl:0<lf
  ·rw [decide_eq_true hl] at HW
   replace HW:=hid HW
   go_enter Tryz.func137,Tryz.ntmps137
   go_wp2_with (first
     | (go_at_call 52;clear ty;refine HW.out.mono ?_;rintro e w' ⟨rfl,rfl⟩)
     | (go_at_call 51;refine HS.out.mono ?_;rintro e w1 ⟨rfl,h1,t1⟩;have H1:=hid h1;have T1:=hid t1;clear h1 t1)
     | (go_at_call 52;refine (uwithin _ _ _ _ _ _ _ _ _ H1.out).mono ?_;rintro e w' ⟨rfl,rfl⟩))
   go_ret
   exact ⟨rfl,H1.out,T1.out⟩
  ·rw [decide_eq_false hl] at HW
   replace HW:=hid HW
   obtain ⟨h1,h2,h3⟩:=hf.resolve_left hl
   have g1:((c.toNat:Int)==34)=false:=beq_eq_false_iff_ne.2 h1
   have g2:((c.toNat:Int)==92)=false:=beq_eq_false_iff_ne.2 h2
   go_enter Tryz.func137,Tryz.ntmps137
   go_wp2_with (first
     | (go_at_call 52;clear ty;refine HW.out.mono ?_;rintro e w' ⟨rfl,rfl⟩)
     | (go_at_call 51;refine HS.out.mono ?_;rintro e w1 ⟨rfl,h1,t1⟩;have H1:=hid h1;have T1:=hid t1;clear h1 t1)
     | (go_at_call 52;refine (uwithin _ _ _ _ _ _ _ _ _ H1.out).mono ?_;rintro e w' ⟨rfl,rfl⟩))
   go_ret
   exact ⟨rfl,H1.out,T1.out⟩
end
section
open Go.RowKit
theorem hexq_is (c:UInt8):hexB c=if isHexI c.toNat=true then some (hexI c.toNat) else none:=by
 unfold hexB isHexI hexI
 by_cases h1:48≤c.toNat∧c.toNat≤57
 ·have h1':48≤(c.toNat:Int)∧(c.toNat:Int)≤57:=by omega
  simp[h1,h1']
 ·have h1':¬ (48≤(c.toNat:Int)∧(c.toNat:Int)≤57):=by omega
  rw[if_neg h1,if_neg h1']
  by_cases h2:97≤c.toNat∧c.toNat≤102
  ·have h2':97≤(c.toNat:Int)∧(c.toNat:Int)≤102:=by omega
   simp[h1',h2,h2']
  ·have h2':¬ (97≤(c.toNat:Int)∧(c.toNat:Int)≤102):=by omega
   rw[if_neg h2,if_neg h2']
   by_cases h3:65≤c.toNat∧c.toNat≤70
   ·have h3':65≤(c.toNat:Int)∧(c.toNat:Int)≤70:=by omega
    simp[h1',h2',h3,h3']
   ·have h3':¬ (65≤(c.toNat:Int)∧(c.toNat:Int)≤70):=by omega
    rw[if_neg h3]
    rw[decide_eq_false h1',decide_eq_false h2',decide_eq_false h3']
    rfl
theorem hex_of (c:UInt8) (d:Int) (h:hexB c=some d) (w:World) :
   Calls Tryz.prog 149 #[.int .u8 c.toNat] w fun e w'=>e=.returned (.tuple #[.int .i64 d,.bool true])∧w=w':=by
 have hc:=UInt8.toNat_lt c
 have:=hex_any c.toNat w (by omega) (by omega)
 rw[hexq_is] at h
 split at h
 ·rename_i h1
  rw[h1,Option.some.inj h] at this
  exact this
 ·cases h
theorem hex_not (c:UInt8) (h:hexB c=none) (w:World) :
   Calls Tryz.prog 149 #[.int .u8 c.toNat] w fun e w'=>e=.returned (.tuple #[.int .i64 0,.bool false])∧w=w':=by
 have hc:=UInt8.toNat_lt c
 have:=hex_any c.toNat w (by omega) (by omega)
 rw[hexq_is] at h
 split at h
 ·cases h
 ·rename_i h1
  have h0:hexI c.toNat=0:=by
    unfold isHexI at h1
    unfold hexI
    simp at h1
    rw[if_neg (by omega),if_neg (by omega),if_neg (by omega)]
  rw[show isHexI c.toNat=false by simpa using h1,h0] at this
  exact this
theorem unitq_any (n:Int) (w:World):Calls Tryz.prog 155 #[.int .i64 n] w fun e w'=>e=.returned (.int .i64 (unitI n))∧w=w':=by
 have hh:n<55296∨(55296≤n∧n<56320)∨(56320≤n∧n<57344)∨57344≤n:=by omega
 rcases hh with h|⟨h,h'⟩|⟨h,h'⟩|h
 all_goals
   go_enter Tryz.func155,Tryz.ntmps155
   go_wp2
   go_ret
   exact ⟨ret_i (by unfold unitI;(repeat' split)<;>omega),rfl⟩
theorem seconds_one (n:Int) (h0:0≤n) (h9:n≤15) (x:Bool) (hx:decide (n=13)=x) (w:World) :
   Calls Tryz.prog 150 #[.int .i64 n,.int .i64 1] w fun e w'=>e=.returned (.bool x)∧w=w':=by
 have hu:=fun w=>unitq_any ((n+1)*4096-1) w
 have he:unitI ((n+1)*4096-1)=if x then 2 else 0:=by
   subst hx
   unfold unitI
   by_cases h:n=13
   ·subst h;rfl
   ·rw[decide_eq_false h,if_neg (by omega),if_neg (by omega)];rfl
 rw[he] at hu
 have HU:=hid hu
 clear he hu hx
 cases x
 all_goals
   go_enter Tryz.func150,Tryz.ntmps150
   go_wp2_with (go_at_call 155;refine (HU.out _).mono ?_;rintro e w' ⟨rfl,rfl⟩)
   go_ret
   exact ⟨rfl,rfl⟩
theorem seconds_two (n:Int) (h0:0≤n) (h9:n≤255) (x:Bool) (hx:decide (220≤n∧n≤223)=x) (w:World) :
   Calls Tryz.prog 150 #[.int .i64 n,.int .i64 2] w fun e w'=>e=.returned (.bool x)∧w=w':=by
 have hu:=fun w=>unitq_any ((n+1)*256-1) w
 have he:unitI ((n+1)*256-1)=2∧x=true∨(unitI ((n+1)*256-1)=0∨unitI ((n+1)*256-1)=1)∧x=false:=by
   subst hx
   unfold unitI
   by_cases h:220≤n∧n≤223
   ·rw[if_neg (by omega),if_pos (by omega)];simp[h]
   ·refine .inr ⟨?_,decide_eq_false h⟩
    (repeat' split)<;>omega
 clear hx
 generalize unitI ((n+1)*256-1)=u at *
 have HU:=hid hu
 clear hu
 rcases he with ⟨rfl,rfl⟩|⟨rfl|rfl,rfl⟩
 all_goals
   go_enter Tryz.func150,Tryz.ntmps150
   go_wp2_with (go_at_call 155;refine (HU.out _).mono ?_;rintro e w' ⟨rfl,rfl⟩)
   go_ret
   exact ⟨rfl,rfl⟩
theorem half_on (w:World) (b:Nat) (a sg lf num cnt fst:Int) (acc:List UInt8) (c nx:Int) (h:QT w b a sg lf num cnt fst acc) :
   Calls Tryz.prog 140 #[.pointer (some ⟨b,0,none⟩),.int .u8 c,.int .u8 c,.int .i64 nx] w fun e w'=>e=.returned (.int .i64 0)∧QT w' b nx sg lf num cnt fst acc∧Turned b w w':=by
 have c0:=h.c0
 have f0:=h.free 0
 have H:=hid h
 have g:(c != c)=false:=by simp
 clear h
 go_enter Tryz.func140,Tryz.ntmps140
 go_wp2
 go_ret
 exact ⟨rfl,H.out.put0 nx,(Turned.refl b w).put 0 _⟩
theorem half_no (w:World) (b:Nat) (c x nx:Int) (hne:c≠x) :
   Calls Tryz.prog 140 #[.pointer (some ⟨b,0,none⟩),.int .u8 c,.int .u8 x,.int .i64 nx] w fun e w'=>e=.returned (.int .i64 4)∧w=w':=by
 have g:(c != x)=true:=bne_iff_ne.2 hne
 clear hne
 go_enter Tryz.func140,Tryz.ntmps140
 go_wp2
 go_ret
 exact ⟨rfl,rfl⟩
theorem add_lit (b:Nat) (at_ sg lf num cnt fst:Int) (acc:List UInt8) (x v:Int) (l:List UInt8) (hx:x=v) (hv:Sgn v) (hl:ofB v=l) (w:World) (h:QT w b at_ sg lf num cnt fst acc) :
   Calls Tryz.prog 146 #[.pointer (some ⟨b,0,none⟩),.int .i32 x] w fun e w'=>e=.returned (.tuple #[])∧QT w' b at_ sg lf num cnt fst (acc++l)∧Turned b w w':=by
 subst hx hl
 exact (add_any b at_ sg lf num cnt fst acc x hv w h).mono fun e w' h=>h
theorem qidx (c:UInt8) (k:Int) (h:Lib.indexByte [34,92,98,102,110,114,116] c=k) (x:Int) (hx:(c.toNat:Int)=x) (w:World) :
   Calls Tryz.prog 148 #[.string ⟨#[34,92,98,102,110,114,116]⟩,.int .u8 x] w fun e w'=>e=.returned (.int .i64 k)∧w'=w:=by
 subst hx
 have:=Tryz.strings_IndexByte ⟨#[34,92,98,102,110,114,116]⟩ c.toNat w
 rw[show (c.toNat:Int).toNat.toUInt8=c by simp,show (ByteArray.mk #[34,92,98,102,110,114,116]).data.toList=[34,92,98,102,110,114,116] from rfl,h] at this
 exact this
theorem escape_u (w:World) (b:Nat) (a sg lf num cnt fst:Int) (acc:List UInt8) (h:QT w b a sg lf num cnt fst acc) :
   Calls Tryz.prog 138 #[.pointer (some ⟨b,0,none⟩),.int .u8 117] w fun e w'=>e=.returned (.int .i64 0)∧QT w' b 2 sg lf num cnt fst acc∧Turned b w w':=by
 have c0:=h.c0
 have f0:=h.free 0
 have H:=hid h
 have HI:=hid (qidx 117 (-1) (by decide +kernel) 117 rfl w)
 clear h
 go_enter Tryz.func138,Tryz.ntmps138
 go_wp2_with (go_at_call 148;refine HI.out.mono ?_;rintro e w' ⟨rfl,rfl⟩)
 go_ret
 exact ⟨rfl,H.out.put0 2,(Turned.refl b _).put 0 _⟩
def EscOn (w:World)(b:Nat)(sg lf num cnt fst:Int)(acc:List UInt8)(e:Ending)(w':World):Prop:=e=.returned (.int .i64 0)∧QT w' b 0 sg lf num cnt fst acc∧Turned b w w'
theorem escape_34 (w:World) (b:Nat) (a sg lf num cnt fst:Int) (acc:List UInt8) (h:QT w b a sg lf num cnt fst acc) :
   Calls Tryz.prog 138 #[.pointer (some ⟨b,0,none⟩),.int .u8 34] w (EscOn w b sg lf num cnt fst (acc++[34])):=by
 have H:=hid h
 have HI:=hid (qidx 34 (0) (by decide +kernel) 34 rfl w)
 have e0:wrap32 (((ByteArray.mk #[34,92,8,12,10,13,9])[0].toNat:Int))=34:=by decide +kernel
 clear h
 go_enter Tryz.func138,Tryz.ntmps138
 go_wp2_with (first
   | (go_at_call 148;refine HI.out.mono ?_;rintro e w' ⟨rfl,rfl⟩)
   | (go_at_call 146;refine (add_lit b _ _ _ _ _ _ _ _ 34 [34] rfl (by unfold Sgn;decide) (by decide +kernel) _ H.out).mono ?_;rintro e w1 ⟨rfl,h1,t1⟩;have c0:=h1.c0;have f0:=h1.free 0;have H1:=hid h1;have T1:=hid t1;clear h1 t1))
 go_ret
 exact ⟨rfl,H1.out.put0 0,T1.out.put 0 _⟩
theorem escape_92 (w:World) (b:Nat) (a sg lf num cnt fst:Int) (acc:List UInt8) (h:QT w b a sg lf num cnt fst acc) :
   Calls Tryz.prog 138 #[.pointer (some ⟨b,0,none⟩),.int .u8 92] w (EscOn w b sg lf num cnt fst (acc++[92])):=by
 have H:=hid h
 have HI:=hid (qidx 92 (1) (by decide +kernel) 92 rfl w)
 have e0:wrap32 (((ByteArray.mk #[34,92,8,12,10,13,9])[1].toNat:Int))=92:=by decide +kernel
 clear h
 go_enter Tryz.func138,Tryz.ntmps138
 go_wp2_with (first
   | (go_at_call 148;refine HI.out.mono ?_;rintro e w' ⟨rfl,rfl⟩)
   | (go_at_call 146;refine (add_lit b _ _ _ _ _ _ _ _ 92 [92] rfl (by unfold Sgn;decide) (by decide +kernel) _ H.out).mono ?_;rintro e w1 ⟨rfl,h1,t1⟩;have c0:=h1.c0;have f0:=h1.free 0;have H1:=hid h1;have T1:=hid t1;clear h1 t1))
 go_ret
 exact ⟨rfl,H1.out.put0 0,T1.out.put 0 _⟩
theorem escape_98 (w:World) (b:Nat) (a sg lf num cnt fst:Int) (acc:List UInt8) (h:QT w b a sg lf num cnt fst acc) :
   Calls Tryz.prog 138 #[.pointer (some ⟨b,0,none⟩),.int .u8 98] w (EscOn w b sg lf num cnt fst (acc++[8])):=by
 have H:=hid h
 have HI:=hid (qidx 98 (2) (by decide +kernel) 98 rfl w)
 have e0:wrap32 (((ByteArray.mk #[34,92,8,12,10,13,9])[2].toNat:Int))=8:=by decide +kernel
 clear h
 go_enter Tryz.func138,Tryz.ntmps138
 go_wp2_with (first
   | (go_at_call 148;refine HI.out.mono ?_;rintro e w' ⟨rfl,rfl⟩)
   | (go_at_call 146;refine (add_lit b _ _ _ _ _ _ _ _ 8 [8] rfl (by unfold Sgn;decide) (by decide +kernel) _ H.out).mono ?_;rintro e w1 ⟨rfl,h1,t1⟩;have c0:=h1.c0;have f0:=h1.free 0;have H1:=hid h1;have T1:=hid t1;clear h1 t1))
 go_ret
 exact ⟨rfl,H1.out.put0 0,T1.out.put 0 _⟩
theorem escape_102 (w:World) (b:Nat) (a sg lf num cnt fst:Int) (acc:List UInt8) (h:QT w b a sg lf num cnt fst acc) :
   Calls Tryz.prog 138 #[.pointer (some ⟨b,0,none⟩),.int .u8 102] w (EscOn w b sg lf num cnt fst (acc++[12])):=by
 have H:=hid h
 have HI:=hid (qidx 102 (3) (by decide +kernel) 102 rfl w)
 have e0:wrap32 (((ByteArray.mk #[34,92,8,12,10,13,9])[3].toNat:Int))=12:=by decide +kernel
 clear h
 go_enter Tryz.func138,Tryz.ntmps138
 go_wp2_with (first
   | (go_at_call 148;refine HI.out.mono ?_;rintro e w' ⟨rfl,rfl⟩)
   | (go_at_call 146;refine (add_lit b _ _ _ _ _ _ _ _ 12 [12] rfl (by unfold Sgn;decide) (by decide +kernel) _ H.out).mono ?_;rintro e w1 ⟨rfl,h1,t1⟩;have c0:=h1.c0;have f0:=h1.free 0;have H1:=hid h1;have T1:=hid t1;clear h1 t1))
 go_ret
 exact ⟨rfl,H1.out.put0 0,T1.out.put 0 _⟩
theorem escape_110 (w:World) (b:Nat) (a sg lf num cnt fst:Int) (acc:List UInt8) (h:QT w b a sg lf num cnt fst acc) :
   Calls Tryz.prog 138 #[.pointer (some ⟨b,0,none⟩),.int .u8 110] w (EscOn w b sg lf num cnt fst (acc++[10])):=by
 have H:=hid h
 have HI:=hid (qidx 110 (4) (by decide +kernel) 110 rfl w)
 have e0:wrap32 (((ByteArray.mk #[34,92,8,12,10,13,9])[4].toNat:Int))=10:=by decide +kernel
 clear h
 go_enter Tryz.func138,Tryz.ntmps138
 go_wp2_with (first
   | (go_at_call 148;refine HI.out.mono ?_;rintro e w' ⟨rfl,rfl⟩)
   | (go_at_call 146;refine (add_lit b _ _ _ _ _ _ _ _ 10 [10] rfl (by unfold Sgn;decide) (by decide +kernel) _ H.out).mono ?_;rintro e w1 ⟨rfl,h1,t1⟩;have c0:=h1.c0;have f0:=h1.free 0;have H1:=hid h1;have T1:=hid t1;clear h1 t1))
 go_ret
 exact ⟨rfl,H1.out.put0 0,T1.out.put 0 _⟩
theorem escape_114 (w:World) (b:Nat) (a sg lf num cnt fst:Int) (acc:List UInt8) (h:QT w b a sg lf num cnt fst acc) :
   Calls Tryz.prog 138 #[.pointer (some ⟨b,0,none⟩),.int .u8 114] w (EscOn w b sg lf num cnt fst (acc++[13])):=by
 have H:=hid h
 have HI:=hid (qidx 114 (5) (by decide +kernel) 114 rfl w)
 have e0:wrap32 (((ByteArray.mk #[34,92,8,12,10,13,9])[5].toNat:Int))=13:=by decide +kernel
 clear h
 go_enter Tryz.func138,Tryz.ntmps138
 go_wp2_with (first
   | (go_at_call 148;refine HI.out.mono ?_;rintro e w' ⟨rfl,rfl⟩)
   | (go_at_call 146;refine (add_lit b _ _ _ _ _ _ _ _ 13 [13] rfl (by unfold Sgn;decide) (by decide +kernel) _ H.out).mono ?_;rintro e w1 ⟨rfl,h1,t1⟩;have c0:=h1.c0;have f0:=h1.free 0;have H1:=hid h1;have T1:=hid t1;clear h1 t1))
 go_ret
 exact ⟨rfl,H1.out.put0 0,T1.out.put 0 _⟩
theorem escape_116 (w:World) (b:Nat) (a sg lf num cnt fst:Int) (acc:List UInt8) (h:QT w b a sg lf num cnt fst acc) :
   Calls Tryz.prog 138 #[.pointer (some ⟨b,0,none⟩),.int .u8 116] w (EscOn w b sg lf num cnt fst (acc++[9])):=by
 have H:=hid h
 have HI:=hid (qidx 116 (6) (by decide +kernel) 116 rfl w)
 have e0:wrap32 (((ByteArray.mk #[34,92,8,12,10,13,9])[6].toNat:Int))=9:=by decide +kernel
 clear h
 go_enter Tryz.func138,Tryz.ntmps138
 go_wp2_with (first
   | (go_at_call 148;refine HI.out.mono ?_;rintro e w' ⟨rfl,rfl⟩)
   | (go_at_call 146;refine (add_lit b _ _ _ _ _ _ _ _ 9 [9] rfl (by unfold Sgn;decide) (by decide +kernel) _ H.out).mono ?_;rintro e w1 ⟨rfl,h1,t1⟩;have c0:=h1.c0;have f0:=h1.free 0;have H1:=hid h1;have T1:=hid t1;clear h1 t1))
 go_ret
 exact ⟨rfl,H1.out.put0 0,T1.out.put 0 _⟩
theorem escape_47 (w:World) (b:Nat) (a sg lf num cnt fst:Int) (acc:List UInt8) (h:QT w b a sg lf num cnt fst acc) :
   Calls Tryz.prog 138 #[.pointer (some ⟨b,0,none⟩),.int .u8 47] w (EscOn w b sg lf num cnt fst (acc++[47])):=by
 have H:=hid h
 have HI:=hid (qidx 47 (-1) (by decide +kernel) 47 rfl w)
 clear h
 go_enter Tryz.func138,Tryz.ntmps138
 go_wp2_with (first
   | (go_at_call 148;refine HI.out.mono ?_;rintro e w' ⟨rfl,rfl⟩)
   | (go_at_call 146;refine (add_lit b _ _ _ _ _ _ _ _ 47 [47] rfl (by unfold Sgn;decide) (by decide +kernel) _ H.out).mono ?_;rintro e w1 ⟨rfl,h1,t1⟩;have c0:=h1.c0;have f0:=h1.free 0;have H1:=hid h1;have T1:=hid t1;clear h1 t1))
 go_ret
 exact ⟨rfl,H1.out.put0 0,T1.out.put 0 _⟩
theorem let_cases (c:UInt8):(c=34∨c=92∨c=98∨c=102∨c=110∨c=114∨c=116∨c=47)∨(letB c=0∧c≠47∧Lib.indexByte [34,92,98,102,110,114,116] c = -1):=by
 by_cases h1:c=34
 ·exact .inl (.inl h1)
 by_cases h2:c=92
 ·exact .inl (.inr (.inl h2))
 by_cases h3:c=98
 ·exact .inl (.inr (.inr (.inl h3)))
 by_cases h4:c=102
 ·exact .inl (.inr (.inr (.inr (.inl h4))))
 by_cases h5:c=110
 ·exact .inl (.inr (.inr (.inr (.inr (.inl h5)))))
 by_cases h6:c=114
 ·exact .inl (.inr (.inr (.inr (.inr (.inr (.inl h6))))))
 by_cases h7:c=116
 ·exact .inl (.inr (.inr (.inr (.inr (.inr (.inr (.inl h7)))))))
 by_cases h8:c=47
 ·exact .inl (.inr (.inr (.inr (.inr (.inr (.inr (.inr h8)))))))
 refine .inr ⟨by simp[letB, *],h8,?_⟩
 have g:∀ x:UInt8,c≠x→(x==c)=false:=fun x h=>beq_eq_false_iff_ne.2 (fun e=>h e.symm)
 simp[Lib.indexByte,g 34 h1,g 92 h2,g 98 h3,g 102 h4,g 110 h5,g 114 h6,g 116 h7]
theorem escape_no (w:World) (b:Nat) (c:UInt8) (h1:c≠117) (h2:c≠47) (hi:Lib.indexByte [34,92,98,102,110,114,116] c = -1) :
   Calls Tryz.prog 138 #[.pointer (some ⟨b,0,none⟩),.int .u8 c.toNat] w fun e w'=>e=.returned (.int .i64 3)∧w=w':=by
 have HI:=hid (qidx c (-1) hi c.toNat rfl w)
 have g1:((c.toNat:Int)==117)=false:=beq_eq_false_iff_ne.2 (fun e=>h1 (UInt8.toNat_inj.1 (by show c.toNat=117;omega)))
 have g2:((c.toNat:Int)==47)=false:=beq_eq_false_iff_ne.2 (fun e=>h2 (UInt8.toNat_inj.1 (by show c.toNat=47;omega)))
 clear h1 h2 hi
 go_enter Tryz.func138,Tryz.ntmps138
 go_wp2_with (go_at_call 148;refine HI.out.mono ?_;rintro e w' ⟨rfl,rfl⟩)
 go_ret
 exact ⟨rfl,rfl⟩
theorem endNumber_first (w:World) (b:Nat) (a sg lf num cnt fst:Int) (acc:List UInt8) (hn:55296≤num∧num≤56319) (h:QT w b a sg lf num cnt fst acc) :
   Calls Tryz.prog 151 #[.pointer (some ⟨b,0,none⟩)] w fun e w'=>e=.returned (.tuple #[])∧QT w' b 3 sg lf 0 0 num acc∧Turned b w w':=by
 have c0:=h.c0
 have c3:=h.c3
 have c4:=h.c4
 have c5:=h.c5
 have f0:=h.free 0
 have f3:=h.free 3
 have f4:=h.free 4
 have f5:=h.free 5
 have hu:=fun w=>unitq_any num w
 rw[show unitI num=1 by unfold unitI;rw[if_pos (by omega)]] at hu
 have HU:=hid hu
 have H:=hid h
 clear h hu
 go_enter Tryz.func151,Tryz.ntmps151
 go_wp2
 go_quiet (fail)
 have h1:QT (w.drewN nq) b a sg lf num cnt fst acc:=H.out.turned rfl ((Turned.refl b w))
 have t1:Turned b w (w.drewN nq):=Turned.refl b w
 generalize w.drewN nq=w1 at *
 clear c0 c3 c4 c5 f0 f3 f4 f5
 have c0:=h1.c0
 have c3:=h1.c3
 have c4:=h1.c4
 have c5:=h1.c5
 have f0:=h1.free 0
 have f3:=h1.free 3
 have f4:=h1.free 4
 have f5:=h1.free 5
 have H1:=hid h1
 have T1:=hid t1
 clear h1 t1
 go_wp2_with (go_at_call 155;refine (HU.out _).mono ?_;rintro e w' ⟨rfl,rfl⟩)
 refine bodyPost_ret (results_none rfl _ _ _) rfl ?_
 exact ⟨rfl,(((((H1.out.put3 0).put4 0).put5 0).put0 3).put5 num),((((T1.out.put 3 _).put 4 _).put 5 _).put 0 _).put 5 _⟩
theorem endNumber_plain (w:World) (b:Nat) (a sg lf num cnt fst:Int) (acc:List UInt8) (hf:fst=0) (hn:0≤num∧num≤65535∧(num<55296∨57343<num)) (h:QT w b a sg lf num cnt fst acc) :
   Calls Tryz.prog 151 #[.pointer (some ⟨b,0,none⟩)] w fun e w'=>e=.returned (.tuple #[])∧QT w' b 0 sg lf 0 0 0 (acc++ofB num)∧Turned b w w':=by
 have c0:=h.c0
 have c3:=h.c3
 have c4:=h.c4
 have c5:=h.c5
 have f0:=h.free 0
 have f3:=h.free 3
 have f4:=h.free 4
 have f5:=h.free 5
 have hu:=fun w=>unitq_any num w
 rw[show unitI num=0 by unfold unitI;rw[if_neg (by omega),if_neg (by omega)]] at hu
 have HU:=hid hu
 have H:=hid h
 have n0:0≤num:=hn.1
 have n9:num≤65535:=hn.2.1
 clear h hu
 go_enter Tryz.func151,Tryz.ntmps151
 go_wp2
 go_quiet (fail)
 have h1:QT (w.drewN nq) b a sg lf num cnt fst acc:=H.out.turned rfl ((Turned.refl b w))
 have t1:Turned b w (w.drewN nq):=Turned.refl b w
 generalize w.drewN nq=w1 at *
 clear c0 c3 c4 c5 f0 f3 f4 f5
 have c0:=h1.c0
 have c3:=h1.c3
 have c4:=h1.c4
 have c5:=h1.c5
 have f0:=h1.free 0
 have f3:=h1.free 3
 have f4:=h1.free 4
 have f5:=h1.free 5
 have H1:=hid h1
 have T1:=hid t1
 clear h1 t1
 have h2:=((((H1.out.put3 0).put4 0).put5 0).put0 0)
 have t2:=((((T1.out.put 3 (.int .i64 0)).put 4 (.int .i64 0)).put 5 (.int .i64 0)).put 0 (.int .i64 0))
 have H2:=hid h2
 have T2:=hid t2
 clear h2 t2
 go_wp2_with (first
   | (go_at_call 155;refine (HU.out _).mono ?_;rintro e w' ⟨rfl,rfl⟩)
   | (go_at_call 146;refine (add_lit b _ _ _ _ _ _ _ _ num _ (by first|rfl|exact e0) (by unfold Sgn;omega) rfl _ H2.out).mono ?_;rintro e w3 ⟨rfl,h3,t3⟩))
 go_end0
 exact ⟨rfl,h3,T2.out.trans t3⟩
theorem endNumber_pair (w:World) (b:Nat) (a sg lf num cnt fst:Int) (acc:List UInt8) (hf:55296≤fst∧fst≤56319) (hn:56320≤num∧num≤57343) (h:QT w b a sg lf num cnt fst acc) :
   Calls Tryz.prog 151 #[.pointer (some ⟨b,0,none⟩)] w fun e w'=>e=.returned (.tuple #[])∧QT w' b 0 sg lf 0 0 0 (acc++ofB (65536+(fst-55296)*1024+(num-56320)))∧Turned b w w':=by
 have c0:=h.c0
 have c3:=h.c3
 have c4:=h.c4
 have c5:=h.c5
 have f0:=h.free 0
 have f3:=h.free 3
 have f4:=h.free 4
 have f5:=h.free 5
 have hu:=fun w=>unitq_any num w
 rw[show unitI num=2 by unfold unitI;rw[if_neg (by omega),if_pos (by omega)]] at hu
 have HU:=hid hu
 have H:=hid h
 obtain ⟨f00,f99⟩:=hf
 obtain ⟨n0,n9⟩:=hn
 have gf:(fst != 0)=true:=bne_iff_ne.2 (by omega)
 clear h hu
 go_enter Tryz.func151,Tryz.ntmps151
 go_wp2
 go_quiet (fail)
 have h1:QT (w.drewN nq) b a sg lf num cnt fst acc:=H.out.turned rfl ((Turned.refl b w))
 have t1:Turned b w (w.drewN nq):=Turned.refl b w
 generalize w.drewN nq=w1 at *
 clear c0 c3 c4 c5 f0 f3 f4 f5
 have c0:=h1.c0
 have c3:=h1.c3
 have c4:=h1.c4
 have c5:=h1.c5
 have f0:=h1.free 0
 have f3:=h1.free 3
 have f4:=h1.free 4
 have f5:=h1.free 5
 have H1:=hid h1
 have T1:=hid t1
 clear h1 t1
 have h2:=((((H1.out.put3 0).put4 0).put5 0).put0 0)
 have t2:=((((T1.out.put 3 (.int .i64 0)).put 4 (.int .i64 0)).put 5 (.int .i64 0)).put 0 (.int .i64 0))
 have H2:=hid h2
 have T2:=hid t2
 clear h2 t2
 go_wp2_with (first
   | (go_at_call 155;refine (HU.out _).mono ?_;rintro e w' ⟨rfl,rfl⟩)
   | (go_at_call 146;refine (add_lit b _ _ _ _ _ _ _ _ (65536+(fst-55296)*1024+(num-56320)) _ (by first|rfl|omega) (by unfold Sgn;omega) rfl _ H2.out).mono ?_;rintro e w3 ⟨rfl,h3,t3⟩))
 go_end0
 exact ⟨rfl,h3,T2.out.trans t3⟩
end
section
open Go.RowKit
theorem i64_or16 (n d:Int) (h0:0≤n) (h9:n≤1000000) (d0:0≤d) (d9:d≤15):bits .or .i64 (n*16) d=n*16+d:=by
 obtain ⟨a,rfl⟩:=Int.eq_ofNat_of_zero_le h0
 obtain ⟨b,rfl⟩:=Int.eq_ofNat_of_zero_le d0
 have e1:(BitVec.ofInt 64 ((a:Int)*16)).toNat=a*16:=by
   rw[show (a:Int)*16=((a*16:Nat):Int) by simp,BitVec.ofInt_natCast,BitVec.toNat_ofNat]
   exact Nat.mod_eq_of_lt (by omega)
 have e2:(BitVec.ofInt 64 (b:Int)).toNat=b:=by rw[BitVec.ofInt_natCast,BitVec.toNat_ofNat];exact Nat.mod_eq_of_lt (by omega)
 have e3:a*16 ||| b=a*16+b:=by
   have:=Nat.shiftLeft_add_eq_or_of_lt (show b<2 ^ 4 by omega) a
   rw[Nat.shiftLeft_eq] at this
   exact this.symm
 show IntKind.i64.wrap ((BitVec.ofInt 64 ((a:Int)*16) ||| BitVec.ofInt 64 (b:Int)).toNat:Int)=_
 rw[BitVec.toNat_or,e1,e2,e3]
 simp[IntKind.wrap,IntKind.bits,IntKind.signed]
 omega
theorem dz0_not (w:World) (b:Nat) (a sg lf num fst:Int) (acc:List UInt8) (hn:0≤num∧num≤0) (hf:fst=0) (c:UInt8) (hd:hexB c=none) (h:QT w b a sg lf num 0 fst acc) :
   Calls Tryz.prog 139 #[.pointer (some ⟨b,0,none⟩),.int .u8 c.toNat] w (fun e w'=>e=.returned (.int .i64 3)∧QT w' b a sg lf num 0 fst acc∧Turned b w w'):=by
 have c3:=h.c3
 have c4:=h.c4
 have c5:=h.c5
 have f3:=h.free 3
 have f4:=h.free 4
 obtain ⟨n0,n9⟩:=hn
 have gf:(fst != 0)=false:=by rw[hf];rfl
 have gf2:(fst==0)=true:=by rw[hf];rfl
 have hor:=i64_or16 num 0 n0 (by omega) (by omega) (by omega)
 have HX:=hid (hex_not c hd)
 have H:=hid h
 clear h hd hf
 go_enter Tryz.func139,Tryz.ntmps139
 go_wp2_with (go_at_call 149;refine (HX.out _).mono ?_;rintro e w' ⟨rfl,rfl⟩)
 go_quiet (fail)
 have h1:QT (w.drewN nq) b a sg lf num 0 fst acc:=H.out.turned rfl ((Turned.refl b w))
 have t1:Turned b w (w.drewN nq):=Turned.refl b w
 generalize w.drewN nq=w1 at *
 clear c3 c4 c5 f3 f4
 have c3:=h1.c3
 have c4:=h1.c4
 have c5:=h1.c5
 have f3:=h1.free 3
 have f4:=h1.free 4
 have H1:=hid h1
 have T1:=hid t1
 clear h1 t1
 go_wp2
 go_ret
 exact ⟨rfl,H1.out,T1.out⟩
theorem dz0_on (w:World) (b:Nat) (a sg lf num fst:Int) (acc:List UInt8) (hn:0≤num∧num≤0) (hf:fst=0) (c:UInt8) (d:Int) (hd:hexB c=some d) (h:QT w b a sg lf num 0 fst acc) :
   Calls Tryz.prog 139 #[.pointer (some ⟨b,0,none⟩),.int .u8 c.toNat] w (fun e w'=>e=.returned (.int .i64 0)∧QT w' b a sg lf (num*16+d) 1 fst acc∧Turned b w w'):=by
 have c3:=h.c3
 have c4:=h.c4
 have c5:=h.c5
 have f3:=h.free 3
 have f4:=h.free 4
 obtain ⟨n0,n9⟩:=hn
 have gf:(fst != 0)=false:=by rw[hf];rfl
 have gf2:(fst==0)=true:=by rw[hf];rfl
 obtain ⟨d0,d9⟩:=hexB_in hd
 have hor:=i64_or16 num d n0 (by omega) d0 d9
 have HX:=hid (hex_of c d hd)
 have H:=hid h
 clear h hd hf
 go_enter Tryz.func139,Tryz.ntmps139
 go_wp2_with (go_at_call 149;refine (HX.out _).mono ?_;rintro e w' ⟨rfl,rfl⟩)
 go_quiet (fail)
 have h1:QT (w.drewN nq) b a sg lf num 0 fst acc:=H.out.turned rfl ((Turned.refl b w))
 have t1:Turned b w (w.drewN nq):=Turned.refl b w
 generalize w.drewN nq=w1 at *
 clear c3 c4 c5 f3 f4
 have c3:=h1.c3
 have c4:=h1.c4
 have c5:=h1.c5
 have f3:=h1.free 3
 have f4:=h1.free 4
 have H1:=hid h1
 have T1:=hid t1
 clear h1 t1
 go_wp2
 go_ret
 exact ⟨rfl,(H1.out.put3 _).put4 1,(T1.out.put 3 _).put 4 _⟩
theorem df0_not (w:World) (b:Nat) (a sg lf num fst:Int) (acc:List UInt8) (hn:0≤num∧num≤0) (hf:fst≠0) (c:UInt8) (hd:hexB c=none) (h:QT w b a sg lf num 0 fst acc) :
   Calls Tryz.prog 139 #[.pointer (some ⟨b,0,none⟩),.int .u8 c.toNat] w (fun e w'=>e=.returned (.int .i64 4)∧QT w' b a sg lf num 0 fst acc∧Turned b w w'):=by
 have c3:=h.c3
 have c4:=h.c4
 have c5:=h.c5
 have f3:=h.free 3
 have f4:=h.free 4
 obtain ⟨n0,n9⟩:=hn
 have gf:(fst != 0)=true:=bne_iff_ne.2 hf
 have gf2:(fst==0)=false:=beq_eq_false_iff_ne.2 hf
 have hor:=i64_or16 num 0 n0 (by omega) (by omega) (by omega)
 have HX:=hid (hex_not c hd)
 have H:=hid h
 clear h hd hf
 go_enter Tryz.func139,Tryz.ntmps139
 go_wp2_with (go_at_call 149;refine (HX.out _).mono ?_;rintro e w' ⟨rfl,rfl⟩)
 go_quiet (fail)
 have h1:QT (w.drewN nq) b a sg lf num 0 fst acc:=H.out.turned rfl ((Turned.refl b w))
 have t1:Turned b w (w.drewN nq):=Turned.refl b w
 generalize w.drewN nq=w1 at *
 clear c3 c4 c5 f3 f4
 have c3:=h1.c3
 have c4:=h1.c4
 have c5:=h1.c5
 have f3:=h1.free 3
 have f4:=h1.free 4
 have H1:=hid h1
 have T1:=hid t1
 clear h1 t1
 go_wp2
 go_ret
 exact ⟨rfl,H1.out,T1.out⟩
theorem df0_pair (w:World) (b:Nat) (a sg lf num fst:Int) (acc:List UInt8) (hn:0≤num∧num≤0) (hf:fst≠0) (c:UInt8) (d:Int) (hd:hexB c=some d) (hs:decide (num*16+d=13)=false) (h:QT w b a sg lf num 0 fst acc) :
   Calls Tryz.prog 139 #[.pointer (some ⟨b,0,none⟩),.int .u8 c.toNat] w (fun e w'=>e=.returned (.int .i64 4)∧QT w' b a sg lf num 0 fst acc∧Turned b w w'):=by
 have c3:=h.c3
 have c4:=h.c4
 have c5:=h.c5
 have f3:=h.free 3
 have f4:=h.free 4
 obtain ⟨n0,n9⟩:=hn
 have gf:(fst != 0)=true:=bne_iff_ne.2 hf
 have gf2:(fst==0)=false:=beq_eq_false_iff_ne.2 hf
 obtain ⟨d0,d9⟩:=hexB_in hd
 have hor:=i64_or16 num d n0 (by omega) d0 d9
 have HX:=hid (hex_of c d hd)
 have HS:=hid (fun w=>seconds_one (num*16+d) (by omega) (by omega) false hs w)
 clear hs
 have H:=hid h
 clear h hd hf
 go_enter Tryz.func139,Tryz.ntmps139
 go_wp2_with (go_at_call 149;refine (HX.out _).mono ?_;rintro e w' ⟨rfl,rfl⟩)
 go_quiet (fail)
 have h1:QT (w.drewN nq) b a sg lf num 0 fst acc:=H.out.turned rfl ((Turned.refl b w))
 have t1:Turned b w (w.drewN nq):=Turned.refl b w
 generalize w.drewN nq=w1 at *
 clear c3 c4 c5 f3 f4
 have c3:=h1.c3
 have c4:=h1.c4
 have c5:=h1.c5
 have f3:=h1.free 3
 have f4:=h1.free 4
 have H1:=hid h1
 have T1:=hid t1
 clear h1 t1
 go_wp2_with (first|(go_at_call 150;refine (HS.out _).mono ?_;rintro e w' ⟨rfl,rfl⟩))
 go_ret
 exact ⟨rfl,H1.out,T1.out⟩
theorem df0_on (w:World) (b:Nat) (a sg lf num fst:Int) (acc:List UInt8) (hn:0≤num∧num≤0) (hf:fst≠0) (c:UInt8) (d:Int) (hd:hexB c=some d) (hs:decide (num*16+d=13)=true) (h:QT w b a sg lf num 0 fst acc) :
   Calls Tryz.prog 139 #[.pointer (some ⟨b,0,none⟩),.int .u8 c.toNat] w (fun e w'=>e=.returned (.int .i64 0)∧QT w' b a sg lf (num*16+d) 1 fst acc∧Turned b w w'):=by
 have c3:=h.c3
 have c4:=h.c4
 have c5:=h.c5
 have f3:=h.free 3
 have f4:=h.free 4
 obtain ⟨n0,n9⟩:=hn
 have gf:(fst != 0)=true:=bne_iff_ne.2 hf
 have gf2:(fst==0)=false:=beq_eq_false_iff_ne.2 hf
 obtain ⟨d0,d9⟩:=hexB_in hd
 have hor:=i64_or16 num d n0 (by omega) d0 d9
 have HX:=hid (hex_of c d hd)
 have HS:=hid (fun w=>seconds_one (num*16+d) (by omega) (by omega) true hs w)
 clear hs
 have H:=hid h
 clear h hd hf
 go_enter Tryz.func139,Tryz.ntmps139
 go_wp2_with (go_at_call 149;refine (HX.out _).mono ?_;rintro e w' ⟨rfl,rfl⟩)
 go_quiet (fail)
 have h1:QT (w.drewN nq) b a sg lf num 0 fst acc:=H.out.turned rfl ((Turned.refl b w))
 have t1:Turned b w (w.drewN nq):=Turned.refl b w
 generalize w.drewN nq=w1 at *
 clear c3 c4 c5 f3 f4
 have c3:=h1.c3
 have c4:=h1.c4
 have c5:=h1.c5
 have f3:=h1.free 3
 have f4:=h1.free 4
 have H1:=hid h1
 have T1:=hid t1
 clear h1 t1
 go_wp2_with (first|(go_at_call 150;refine (HS.out _).mono ?_;rintro e w' ⟨rfl,rfl⟩))
 go_ret
 exact ⟨rfl,(H1.out.put3 _).put4 1,(T1.out.put 3 _).put 4 _⟩
theorem dz1_not (w:World) (b:Nat) (a sg lf num fst:Int) (acc:List UInt8) (hn:0≤num∧num≤15) (hf:fst=0) (c:UInt8) (hd:hexB c=none) (h:QT w b a sg lf num 1 fst acc) :
   Calls Tryz.prog 139 #[.pointer (some ⟨b,0,none⟩),.int .u8 c.toNat] w (fun e w'=>e=.returned (.int .i64 3)∧QT w' b a sg lf num 1 fst acc∧Turned b w w'):=by
 have c3:=h.c3
 have c4:=h.c4
 have c5:=h.c5
 have f3:=h.free 3
 have f4:=h.free 4
 obtain ⟨n0,n9⟩:=hn
 have gf:(fst != 0)=false:=by rw[hf];rfl
 have gf2:(fst==0)=true:=by rw[hf];rfl
 have hor:=i64_or16 num 0 n0 (by omega) (by omega) (by omega)
 have HX:=hid (hex_not c hd)
 have H:=hid h
 clear h hd hf
 go_enter Tryz.func139,Tryz.ntmps139
 go_wp2_with (go_at_call 149;refine (HX.out _).mono ?_;rintro e w' ⟨rfl,rfl⟩)
 go_quiet (fail)
 have h1:QT (w.drewN nq) b a sg lf num 1 fst acc:=H.out.turned rfl ((Turned.refl b w))
 have t1:Turned b w (w.drewN nq):=Turned.refl b w
 generalize w.drewN nq=w1 at *
 clear c3 c4 c5 f3 f4
 have c3:=h1.c3
 have c4:=h1.c4
 have c5:=h1.c5
 have f3:=h1.free 3
 have f4:=h1.free 4
 have H1:=hid h1
 have T1:=hid t1
 clear h1 t1
 go_wp2
 go_ret
 exact ⟨rfl,H1.out,T1.out⟩
theorem dz1_pair (w:World) (b:Nat) (a sg lf num fst:Int) (acc:List UInt8) (hn:0≤num∧num≤15) (hf:fst=0) (c:UInt8) (d:Int) (hd:hexB c=some d) (hs:decide (220≤num*16+d∧num*16+d≤223)=true) (h:QT w b a sg lf num 1 fst acc) :
   Calls Tryz.prog 139 #[.pointer (some ⟨b,0,none⟩),.int .u8 c.toNat] w (fun e w'=>e=.returned (.int .i64 4)∧QT w' b a sg lf num 1 fst acc∧Turned b w w'):=by
 have c3:=h.c3
 have c4:=h.c4
 have c5:=h.c5
 have f3:=h.free 3
 have f4:=h.free 4
 obtain ⟨n0,n9⟩:=hn
 have gf:(fst != 0)=false:=by rw[hf];rfl
 have gf2:(fst==0)=true:=by rw[hf];rfl
 obtain ⟨d0,d9⟩:=hexB_in hd
 have hor:=i64_or16 num d n0 (by omega) d0 d9
 have HX:=hid (hex_of c d hd)
 have HS:=hid (fun w=>seconds_two (num*16+d) (by omega) (by omega) true hs w)
 clear hs
 have H:=hid h
 clear h hd hf
 go_enter Tryz.func139,Tryz.ntmps139
 go_wp2_with (go_at_call 149;refine (HX.out _).mono ?_;rintro e w' ⟨rfl,rfl⟩)
 go_quiet (fail)
 have h1:QT (w.drewN nq) b a sg lf num 1 fst acc:=H.out.turned rfl ((Turned.refl b w))
 have t1:Turned b w (w.drewN nq):=Turned.refl b w
 generalize w.drewN nq=w1 at *
 clear c3 c4 c5 f3 f4
 have c3:=h1.c3
 have c4:=h1.c4
 have c5:=h1.c5
 have f3:=h1.free 3
 have f4:=h1.free 4
 have H1:=hid h1
 have T1:=hid t1
 clear h1 t1
 go_wp2_with (first|(go_at_call 150;refine (HS.out _).mono ?_;rintro e w' ⟨rfl,rfl⟩))
 go_ret
 exact ⟨rfl,H1.out,T1.out⟩
theorem dz1_on (w:World) (b:Nat) (a sg lf num fst:Int) (acc:List UInt8) (hn:0≤num∧num≤15) (hf:fst=0) (c:UInt8) (d:Int) (hd:hexB c=some d) (hs:decide (220≤num*16+d∧num*16+d≤223)=false) (h:QT w b a sg lf num 1 fst acc) :
   Calls Tryz.prog 139 #[.pointer (some ⟨b,0,none⟩),.int .u8 c.toNat] w (fun e w'=>e=.returned (.int .i64 0)∧QT w' b a sg lf (num*16+d) 2 fst acc∧Turned b w w'):=by
 have c3:=h.c3
 have c4:=h.c4
 have c5:=h.c5
 have f3:=h.free 3
 have f4:=h.free 4
 obtain ⟨n0,n9⟩:=hn
 have gf:(fst != 0)=false:=by rw[hf];rfl
 have gf2:(fst==0)=true:=by rw[hf];rfl
 obtain ⟨d0,d9⟩:=hexB_in hd
 have hor:=i64_or16 num d n0 (by omega) d0 d9
 have HX:=hid (hex_of c d hd)
 have HS:=hid (fun w=>seconds_two (num*16+d) (by omega) (by omega) false hs w)
 clear hs
 have H:=hid h
 clear h hd hf
 go_enter Tryz.func139,Tryz.ntmps139
 go_wp2_with (go_at_call 149;refine (HX.out _).mono ?_;rintro e w' ⟨rfl,rfl⟩)
 go_quiet (fail)
 have h1:QT (w.drewN nq) b a sg lf num 1 fst acc:=H.out.turned rfl ((Turned.refl b w))
 have t1:Turned b w (w.drewN nq):=Turned.refl b w
 generalize w.drewN nq=w1 at *
 clear c3 c4 c5 f3 f4
 have c3:=h1.c3
 have c4:=h1.c4
 have c5:=h1.c5
 have f3:=h1.free 3
 have f4:=h1.free 4
 have H1:=hid h1
 have T1:=hid t1
 clear h1 t1
 go_wp2_with (first|(go_at_call 150;refine (HS.out _).mono ?_;rintro e w' ⟨rfl,rfl⟩))
 go_ret
 exact ⟨rfl,(H1.out.put3 _).put4 2,(T1.out.put 3 _).put 4 _⟩
theorem df1_not (w:World) (b:Nat) (a sg lf num fst:Int) (acc:List UInt8) (hn:0≤num∧num≤15) (hf:fst≠0) (c:UInt8) (hd:hexB c=none) (h:QT w b a sg lf num 1 fst acc) :
   Calls Tryz.prog 139 #[.pointer (some ⟨b,0,none⟩),.int .u8 c.toNat] w (fun e w'=>e=.returned (.int .i64 4)∧QT w' b a sg lf num 1 fst acc∧Turned b w w'):=by
 have c3:=h.c3
 have c4:=h.c4
 have c5:=h.c5
 have f3:=h.free 3
 have f4:=h.free 4
 obtain ⟨n0,n9⟩:=hn
 have gf:(fst != 0)=true:=bne_iff_ne.2 hf
 have gf2:(fst==0)=false:=beq_eq_false_iff_ne.2 hf
 have hor:=i64_or16 num 0 n0 (by omega) (by omega) (by omega)
 have HX:=hid (hex_not c hd)
 have H:=hid h
 clear h hd hf
 go_enter Tryz.func139,Tryz.ntmps139
 go_wp2_with (go_at_call 149;refine (HX.out _).mono ?_;rintro e w' ⟨rfl,rfl⟩)
 go_quiet (fail)
 have h1:QT (w.drewN nq) b a sg lf num 1 fst acc:=H.out.turned rfl ((Turned.refl b w))
 have t1:Turned b w (w.drewN nq):=Turned.refl b w
 generalize w.drewN nq=w1 at *
 clear c3 c4 c5 f3 f4
 have c3:=h1.c3
 have c4:=h1.c4
 have c5:=h1.c5
 have f3:=h1.free 3
 have f4:=h1.free 4
 have H1:=hid h1
 have T1:=hid t1
 clear h1 t1
 go_wp2
 go_ret
 exact ⟨rfl,H1.out,T1.out⟩
theorem df1_pair (w:World) (b:Nat) (a sg lf num fst:Int) (acc:List UInt8) (hn:0≤num∧num≤15) (hf:fst≠0) (c:UInt8) (d:Int) (hd:hexB c=some d) (hs:decide (220≤num*16+d∧num*16+d≤223)=false) (h:QT w b a sg lf num 1 fst acc) :
   Calls Tryz.prog 139 #[.pointer (some ⟨b,0,none⟩),.int .u8 c.toNat] w (fun e w'=>e=.returned (.int .i64 4)∧QT w' b a sg lf num 1 fst acc∧Turned b w w'):=by
 have c3:=h.c3
 have c4:=h.c4
 have c5:=h.c5
 have f3:=h.free 3
 have f4:=h.free 4
 obtain ⟨n0,n9⟩:=hn
 have gf:(fst != 0)=true:=bne_iff_ne.2 hf
 have gf2:(fst==0)=false:=beq_eq_false_iff_ne.2 hf
 obtain ⟨d0,d9⟩:=hexB_in hd
 have hor:=i64_or16 num d n0 (by omega) d0 d9
 have HX:=hid (hex_of c d hd)
 have HS:=hid (fun w=>seconds_two (num*16+d) (by omega) (by omega) false hs w)
 clear hs
 have H:=hid h
 clear h hd hf
 go_enter Tryz.func139,Tryz.ntmps139
 go_wp2_with (go_at_call 149;refine (HX.out _).mono ?_;rintro e w' ⟨rfl,rfl⟩)
 go_quiet (fail)
 have h1:QT (w.drewN nq) b a sg lf num 1 fst acc:=H.out.turned rfl ((Turned.refl b w))
 have t1:Turned b w (w.drewN nq):=Turned.refl b w
 generalize w.drewN nq=w1 at *
 clear c3 c4 c5 f3 f4
 have c3:=h1.c3
 have c4:=h1.c4
 have c5:=h1.c5
 have f3:=h1.free 3
 have f4:=h1.free 4
 have H1:=hid h1
 have T1:=hid t1
 clear h1 t1
 go_wp2_with (first|(go_at_call 150;refine (HS.out _).mono ?_;rintro e w' ⟨rfl,rfl⟩))
 go_ret
 exact ⟨rfl,H1.out,T1.out⟩
theorem df1_on (w:World) (b:Nat) (a sg lf num fst:Int) (acc:List UInt8) (hn:0≤num∧num≤15) (hf:fst≠0) (c:UInt8) (d:Int) (hd:hexB c=some d) (hs:decide (220≤num*16+d∧num*16+d≤223)=true) (h:QT w b a sg lf num 1 fst acc) :
   Calls Tryz.prog 139 #[.pointer (some ⟨b,0,none⟩),.int .u8 c.toNat] w (fun e w'=>e=.returned (.int .i64 0)∧QT w' b a sg lf (num*16+d) 2 fst acc∧Turned b w w'):=by
 have c3:=h.c3
 have c4:=h.c4
 have c5:=h.c5
 have f3:=h.free 3
 have f4:=h.free 4
 obtain ⟨n0,n9⟩:=hn
 have gf:(fst != 0)=true:=bne_iff_ne.2 hf
 have gf2:(fst==0)=false:=beq_eq_false_iff_ne.2 hf
 obtain ⟨d0,d9⟩:=hexB_in hd
 have hor:=i64_or16 num d n0 (by omega) d0 d9
 have HX:=hid (hex_of c d hd)
 have HS:=hid (fun w=>seconds_two (num*16+d) (by omega) (by omega) true hs w)
 clear hs
 have H:=hid h
 clear h hd hf
 go_enter Tryz.func139,Tryz.ntmps139
 go_wp2_with (go_at_call 149;refine (HX.out _).mono ?_;rintro e w' ⟨rfl,rfl⟩)
 go_quiet (fail)
 have h1:QT (w.drewN nq) b a sg lf num 1 fst acc:=H.out.turned rfl ((Turned.refl b w))
 have t1:Turned b w (w.drewN nq):=Turned.refl b w
 generalize w.drewN nq=w1 at *
 clear c3 c4 c5 f3 f4
 have c3:=h1.c3
 have c4:=h1.c4
 have c5:=h1.c5
 have f3:=h1.free 3
 have f4:=h1.free 4
 have H1:=hid h1
 have T1:=hid t1
 clear h1 t1
 go_wp2_with (first|(go_at_call 150;refine (HS.out _).mono ?_;rintro e w' ⟨rfl,rfl⟩))
 go_ret
 exact ⟨rfl,(H1.out.put3 _).put4 2,(T1.out.put 3 _).put 4 _⟩
theorem dz2_not (w:World) (b:Nat) (a sg lf num fst:Int) (acc:List UInt8) (hn:0≤num∧num≤255) (hf:fst=0) (c:UInt8) (hd:hexB c=none) (h:QT w b a sg lf num 2 fst acc) :
   Calls Tryz.prog 139 #[.pointer (some ⟨b,0,none⟩),.int .u8 c.toNat] w (fun e w'=>e=.returned (.int .i64 3)∧QT w' b a sg lf num 2 fst acc∧Turned b w w'):=by
 have c3:=h.c3
 have c4:=h.c4
 have c5:=h.c5
 have f3:=h.free 3
 have f4:=h.free 4
 obtain ⟨n0,n9⟩:=hn
 have gf:(fst != 0)=false:=by rw[hf];rfl
 have gf2:(fst==0)=true:=by rw[hf];rfl
 have hor:=i64_or16 num 0 n0 (by omega) (by omega) (by omega)
 have HX:=hid (hex_not c hd)
 have H:=hid h
 clear h hd hf
 go_enter Tryz.func139,Tryz.ntmps139
 go_wp2_with (go_at_call 149;refine (HX.out _).mono ?_;rintro e w' ⟨rfl,rfl⟩)
 go_quiet (fail)
 have h1:QT (w.drewN nq) b a sg lf num 2 fst acc:=H.out.turned rfl ((Turned.refl b w))
 have t1:Turned b w (w.drewN nq):=Turned.refl b w
 generalize w.drewN nq=w1 at *
 clear c3 c4 c5 f3 f4
 have c3:=h1.c3
 have c4:=h1.c4
 have c5:=h1.c5
 have f3:=h1.free 3
 have f4:=h1.free 4
 have H1:=hid h1
 have T1:=hid t1
 clear h1 t1
 go_wp2
 go_ret
 exact ⟨rfl,H1.out,T1.out⟩
theorem dz2_on (w:World) (b:Nat) (a sg lf num fst:Int) (acc:List UInt8) (hn:0≤num∧num≤255) (hf:fst=0) (c:UInt8) (d:Int) (hd:hexB c=some d) (h:QT w b a sg lf num 2 fst acc) :
   Calls Tryz.prog 139 #[.pointer (some ⟨b,0,none⟩),.int .u8 c.toNat] w (fun e w'=>e=.returned (.int .i64 0)∧QT w' b a sg lf (num*16+d) 3 fst acc∧Turned b w w'):=by
 have c3:=h.c3
 have c4:=h.c4
 have c5:=h.c5
 have f3:=h.free 3
 have f4:=h.free 4
 obtain ⟨n0,n9⟩:=hn
 have gf:(fst != 0)=false:=by rw[hf];rfl
 have gf2:(fst==0)=true:=by rw[hf];rfl
 obtain ⟨d0,d9⟩:=hexB_in hd
 have hor:=i64_or16 num d n0 (by omega) d0 d9
 have HX:=hid (hex_of c d hd)
 have H:=hid h
 clear h hd hf
 go_enter Tryz.func139,Tryz.ntmps139
 go_wp2_with (go_at_call 149;refine (HX.out _).mono ?_;rintro e w' ⟨rfl,rfl⟩)
 go_quiet (fail)
 have h1:QT (w.drewN nq) b a sg lf num 2 fst acc:=H.out.turned rfl ((Turned.refl b w))
 have t1:Turned b w (w.drewN nq):=Turned.refl b w
 generalize w.drewN nq=w1 at *
 clear c3 c4 c5 f3 f4
 have c3:=h1.c3
 have c4:=h1.c4
 have c5:=h1.c5
 have f3:=h1.free 3
 have f4:=h1.free 4
 have H1:=hid h1
 have T1:=hid t1
 clear h1 t1
 go_wp2
 go_ret
 exact ⟨rfl,(H1.out.put3 _).put4 3,(T1.out.put 3 _).put 4 _⟩
theorem df2_not (w:World) (b:Nat) (a sg lf num fst:Int) (acc:List UInt8) (hn:0≤num∧num≤255) (hf:fst≠0) (c:UInt8) (hd:hexB c=none) (h:QT w b a sg lf num 2 fst acc) :
   Calls Tryz.prog 139 #[.pointer (some ⟨b,0,none⟩),.int .u8 c.toNat] w (fun e w'=>e=.returned (.int .i64 3)∧QT w' b a sg lf num 2 fst acc∧Turned b w w'):=by
 have c3:=h.c3
 have c4:=h.c4
 have c5:=h.c5
 have f3:=h.free 3
 have f4:=h.free 4
 obtain ⟨n0,n9⟩:=hn
 have gf:(fst != 0)=true:=bne_iff_ne.2 hf
 have gf2:(fst==0)=false:=beq_eq_false_iff_ne.2 hf
 have hor:=i64_or16 num 0 n0 (by omega) (by omega) (by omega)
 have HX:=hid (hex_not c hd)
 have H:=hid h
 clear h hd hf
 go_enter Tryz.func139,Tryz.ntmps139
 go_wp2_with (go_at_call 149;refine (HX.out _).mono ?_;rintro e w' ⟨rfl,rfl⟩)
 go_quiet (fail)
 have h1:QT (w.drewN nq) b a sg lf num 2 fst acc:=H.out.turned rfl ((Turned.refl b w))
 have t1:Turned b w (w.drewN nq):=Turned.refl b w
 generalize w.drewN nq=w1 at *
 clear c3 c4 c5 f3 f4
 have c3:=h1.c3
 have c4:=h1.c4
 have c5:=h1.c5
 have f3:=h1.free 3
 have f4:=h1.free 4
 have H1:=hid h1
 have T1:=hid t1
 clear h1 t1
 go_wp2
 go_ret
 exact ⟨rfl,H1.out,T1.out⟩
theorem df2_on (w:World) (b:Nat) (a sg lf num fst:Int) (acc:List UInt8) (hn:0≤num∧num≤255) (hf:fst≠0) (c:UInt8) (d:Int) (hd:hexB c=some d) (h:QT w b a sg lf num 2 fst acc) :
   Calls Tryz.prog 139 #[.pointer (some ⟨b,0,none⟩),.int .u8 c.toNat] w (fun e w'=>e=.returned (.int .i64 0)∧QT w' b a sg lf (num*16+d) 3 fst acc∧Turned b w w'):=by
 have c3:=h.c3
 have c4:=h.c4
 have c5:=h.c5
 have f3:=h.free 3
 have f4:=h.free 4
 obtain ⟨n0,n9⟩:=hn
 have gf:(fst != 0)=true:=bne_iff_ne.2 hf
 have gf2:(fst==0)=false:=beq_eq_false_iff_ne.2 hf
 obtain ⟨d0,d9⟩:=hexB_in hd
 have hor:=i64_or16 num d n0 (by omega) d0 d9
 have HX:=hid (hex_of c d hd)
 have H:=hid h
 clear h hd hf
 go_enter Tryz.func139,Tryz.ntmps139
 go_wp2_with (go_at_call 149;refine (HX.out _).mono ?_;rintro e w' ⟨rfl,rfl⟩)
 go_quiet (fail)
 have h1:QT (w.drewN nq) b a sg lf num 2 fst acc:=H.out.turned rfl ((Turned.refl b w))
 have t1:Turned b w (w.drewN nq):=Turned.refl b w
 generalize w.drewN nq=w1 at *
 clear c3 c4 c5 f3 f4
 have c3:=h1.c3
 have c4:=h1.c4
 have c5:=h1.c5
 have f3:=h1.free 3
 have f4:=h1.free 4
 have H1:=hid h1
 have T1:=hid t1
 clear h1 t1
 go_wp2
 go_ret
 exact ⟨rfl,(H1.out.put3 _).put4 3,(T1.out.put 3 _).put 4 _⟩
theorem dz3_not (w:World) (b:Nat) (a sg lf num fst:Int) (acc:List UInt8) (hn:0≤num∧num≤4095) (hf:fst=0) (c:UInt8) (hd:hexB c=none) (h:QT w b a sg lf num 3 fst acc) :
   Calls Tryz.prog 139 #[.pointer (some ⟨b,0,none⟩),.int .u8 c.toNat] w (fun e w'=>e=.returned (.int .i64 3)∧QT w' b a sg lf num 3 fst acc∧Turned b w w'):=by
 have c3:=h.c3
 have c4:=h.c4
 have c5:=h.c5
 have f3:=h.free 3
 have f4:=h.free 4
 obtain ⟨n0,n9⟩:=hn
 have gf:(fst != 0)=false:=by rw[hf];rfl
 have gf2:(fst==0)=true:=by rw[hf];rfl
 have hor:=i64_or16 num 0 n0 (by omega) (by omega) (by omega)
 have HX:=hid (hex_not c hd)
 have H:=hid h
 clear h hd hf
 go_enter Tryz.func139,Tryz.ntmps139
 go_wp2_with (go_at_call 149;refine (HX.out _).mono ?_;rintro e w' ⟨rfl,rfl⟩)
 go_quiet (fail)
 have h1:QT (w.drewN nq) b a sg lf num 3 fst acc:=H.out.turned rfl ((Turned.refl b w))
 have t1:Turned b w (w.drewN nq):=Turned.refl b w
 generalize w.drewN nq=w1 at *
 clear c3 c4 c5 f3 f4
 have c3:=h1.c3
 have c4:=h1.c4
 have c5:=h1.c5
 have f3:=h1.free 3
 have f4:=h1.free 4
 have H1:=hid h1
 have T1:=hid t1
 clear h1 t1
 go_wp2
 go_ret
 exact ⟨rfl,H1.out,T1.out⟩
theorem dz3_end (w:World) (b:Nat) (a sg lf num fst:Int) (acc:List UInt8) (hn:0≤num∧num≤4095) (hf:fst=0) (c:UInt8) (d:Int) (hd:hexB c=some d) (h:QT w b a sg lf num 3 fst acc) (R:World→Prop) (hend:∀ w1,QT w1 b a sg lf (num*16+d) 4 fst acc→Calls Tryz.prog 151 #[.pointer (some ⟨b,0,none⟩)] w1 fun e w'=>e=.returned (.tuple #[])∧R w'∧Turned b w1 w') :
   Calls Tryz.prog 139 #[.pointer (some ⟨b,0,none⟩),.int .u8 c.toNat] w (fun e w'=>e=.returned (.int .i64 0)∧R w'∧Turned b w w'):=by
 have c3:=h.c3
 have c4:=h.c4
 have c5:=h.c5
 have f3:=h.free 3
 have f4:=h.free 4
 obtain ⟨n0,n9⟩:=hn
 have gf:(fst != 0)=false:=by rw[hf];rfl
 have gf2:(fst==0)=true:=by rw[hf];rfl
 obtain ⟨d0,d9⟩:=hexB_in hd
 have hor:=i64_or16 num d n0 (by omega) d0 d9
 have HX:=hid (hex_of c d hd)
 have HE:=hid hend
 clear hend
 have H:=hid h
 clear h hd hf
 go_enter Tryz.func139,Tryz.ntmps139
 go_wp2_with (go_at_call 149;refine (HX.out _).mono ?_;rintro e w' ⟨rfl,rfl⟩)
 go_quiet (fail)
 have h1:QT (w.drewN nq) b a sg lf num 3 fst acc:=H.out.turned rfl ((Turned.refl b w))
 have t1:Turned b w (w.drewN nq):=Turned.refl b w
 generalize w.drewN nq=w1 at *
 clear c3 c4 c5 f3 f4
 have c3:=h1.c3
 have c4:=h1.c4
 have c5:=h1.c5
 have f3:=h1.free 3
 have f4:=h1.free 4
 have H1:=hid h1
 have T1:=hid t1
 clear h1 t1
 go_wp2_with (first|(go_at_call 151;refine (HE.out _ ((H1.out.put3 _).put4 4)).mono ?_;rintro e w2 ⟨rfl,h2,t2⟩;have H2:=hid h2;have T2:=hid t2;clear h2 t2))
 go_ret
 exact ⟨rfl,H2.out,((T1.out.put 3 _).put 4 _).trans T2.out⟩
theorem df3_not (w:World) (b:Nat) (a sg lf num fst:Int) (acc:List UInt8) (hn:0≤num∧num≤4095) (hf:fst≠0) (c:UInt8) (hd:hexB c=none) (h:QT w b a sg lf num 3 fst acc) :
   Calls Tryz.prog 139 #[.pointer (some ⟨b,0,none⟩),.int .u8 c.toNat] w (fun e w'=>e=.returned (.int .i64 3)∧QT w' b a sg lf num 3 fst acc∧Turned b w w'):=by
 have c3:=h.c3
 have c4:=h.c4
 have c5:=h.c5
 have f3:=h.free 3
 have f4:=h.free 4
 obtain ⟨n0,n9⟩:=hn
 have gf:(fst != 0)=true:=bne_iff_ne.2 hf
 have gf2:(fst==0)=false:=beq_eq_false_iff_ne.2 hf
 have hor:=i64_or16 num 0 n0 (by omega) (by omega) (by omega)
 have HX:=hid (hex_not c hd)
 have H:=hid h
 clear h hd hf
 go_enter Tryz.func139,Tryz.ntmps139
 go_wp2_with (go_at_call 149;refine (HX.out _).mono ?_;rintro e w' ⟨rfl,rfl⟩)
 go_quiet (fail)
 have h1:QT (w.drewN nq) b a sg lf num 3 fst acc:=H.out.turned rfl ((Turned.refl b w))
 have t1:Turned b w (w.drewN nq):=Turned.refl b w
 generalize w.drewN nq=w1 at *
 clear c3 c4 c5 f3 f4
 have c3:=h1.c3
 have c4:=h1.c4
 have c5:=h1.c5
 have f3:=h1.free 3
 have f4:=h1.free 4
 have H1:=hid h1
 have T1:=hid t1
 clear h1 t1
 go_wp2
 go_ret
 exact ⟨rfl,H1.out,T1.out⟩
theorem df3_end (w:World) (b:Nat) (a sg lf num fst:Int) (acc:List UInt8) (hn:0≤num∧num≤4095) (hf:fst≠0) (c:UInt8) (d:Int) (hd:hexB c=some d) (h:QT w b a sg lf num 3 fst acc) (R:World→Prop) (hend:∀ w1,QT w1 b a sg lf (num*16+d) 4 fst acc→Calls Tryz.prog 151 #[.pointer (some ⟨b,0,none⟩)] w1 fun e w'=>e=.returned (.tuple #[])∧R w'∧Turned b w1 w') :
   Calls Tryz.prog 139 #[.pointer (some ⟨b,0,none⟩),.int .u8 c.toNat] w (fun e w'=>e=.returned (.int .i64 0)∧R w'∧Turned b w w'):=by
 have c3:=h.c3
 have c4:=h.c4
 have c5:=h.c5
 have f3:=h.free 3
 have f4:=h.free 4
 obtain ⟨n0,n9⟩:=hn
 have gf:(fst != 0)=true:=bne_iff_ne.2 hf
 have gf2:(fst==0)=false:=beq_eq_false_iff_ne.2 hf
 obtain ⟨d0,d9⟩:=hexB_in hd
 have hor:=i64_or16 num d n0 (by omega) d0 d9
 have HX:=hid (hex_of c d hd)
 have HE:=hid hend
 clear hend
 have H:=hid h
 clear h hd hf
 go_enter Tryz.func139,Tryz.ntmps139
 go_wp2_with (go_at_call 149;refine (HX.out _).mono ?_;rintro e w' ⟨rfl,rfl⟩)
 go_quiet (fail)
 have h1:QT (w.drewN nq) b a sg lf num 3 fst acc:=H.out.turned rfl ((Turned.refl b w))
 have t1:Turned b w (w.drewN nq):=Turned.refl b w
 generalize w.drewN nq=w1 at *
 clear c3 c4 c5 f3 f4
 have c3:=h1.c3
 have c4:=h1.c4
 have c5:=h1.c5
 have f3:=h1.free 3
 have f4:=h1.free 4
 have H1:=hid h1
 have T1:=hid t1
 clear h1 t1
 go_wp2_with (first|(go_at_call 151;refine (HE.out _ ((H1.out.put3 _).put4 4)).mono ?_;rintro e w2 ⟨rfl,h2,t2⟩;have H2:=hid h2;have T2:=hid t2;clear h2 t2))
 go_ret
 exact ⟨rfl,H2.out,((T1.out.put 3 _).put 4 _).trans T2.out⟩
end
end Go.Proofs.YtnokhgfifbkflaaGreat
