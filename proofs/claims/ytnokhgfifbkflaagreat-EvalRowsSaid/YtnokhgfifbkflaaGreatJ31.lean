/- Lemmas. -/
import Derived.Test.YtnokhgfifbkflaaGreatProg
import Derived.Test.YtnokhgfifbkflaaGreatJ28
set_option maxRecDepth 100000
set_option maxHeartbeats 8000000
set_option linter.unusedVariables false
set_option linter.unusedSimpArgs false
namespace Go.Proofs.YtnokhgfifbkflaaGreat
open Go.Lib (hid)
section
open Go.RowKit
theorem step_row_append {α:Type} {KK:RowK α} {ops:Array Oper} {o:Oper} {a:Act} {w:World} {K:Act→World→Prop} {Q:Exit→Act→World→Prop} {E:Prop} (hgd:o.guard=none) (s x:Operand) (ho:o.op=.call { callee:=.builtin .append,args:=#[s,x],argTypes:=#[KK.S,KK.S] })
   (base:Nat) (v:Value) (l:List α) (hs:a.eval s=v) (hown:GRow KK w base v l) (A:Option Addr) (m c:Nat) (news:List α) (hx:a.eval x=.slice A m c) (hr:RdG KK w A m news)
   (h63:l.length+m≤1000000000) (hbase:base≤w.heap.size)
   (hK:∀ v' w',GRow KK w' base v' (l++news)→w.grownBy w' v.ownBlock→(v'.ownBlock=v.ownBlock∨v'.ownBlock=some w.heap.size)→K (a.put o.dst v') w'):if Region.wanted o (yielded ops a.tmps)=true then Oper.wp Tryz.prog o a w K Q else E:=by
 have hw:Region.wanted o (yielded ops a.tmps)=true:=by simp[Region.wanted,hgd]
 rw[if_pos hw]
 obtain ⟨v',w',hrun,h2,h3,h5⟩:=run_row_append w base o.type v l hown A m c news hr h63 hbase
 unfold Oper.wp execOp
 simp only [ho,resolve,invoke,builtin,Sem.run_bind,Sem.run_pure,Result.andThen_ok,List.map_toArray,List.map_cons,List.map_nil,hs,hx,hrun]
 exact hK v' w' h2 h3 h5
end
section
open Go.RowKit
def RelNd16 (W2:World) (v:Tree) (s:Sel) (vo i:Value) (wr:World):Prop :=
 ∃ (k:Nat) (V:Value),V=vo∧k≤v.items.length∧i=.int .i64 k∧GRow plcK wr W2.heap.size vo (preT v s k)∧Below W2.heap.size W2 wr
theorem enamed_any (v:Tree) (x:V6) (s:Sel) (W:World) (hv:VIs W v x) (h5:v.kd=5) (hnm:v.names.length=v.items.length) (hk:s.kind=0) (h9:v.items.length≤1000) :
   Calls Tryz.prog 28 #[.agg #[.int .i64 x.kd,.int .i64 x.fr,.int .i64 x.to,.string ⟨x.tx.toArray⟩,.slice x.A x.n x.c,.slice x.B x.m x.d],.string s.name] W (ChEnd (childT v s) W):=by
 have hm:x.n=v.items.length∧x.m=v.names.length:=by obtain ⟨kd,fr,td,tx,items,names⟩:=v;exact hv.many
 have h7:RdG namK W x.B x.m v.names:=by obtain ⟨kd,fr,td,tx,items,names⟩:=v;unfold VIs at hv;exact hv.2.2.2.2.2.2.1
 obtain ⟨xk,xf,xt,xx,xA,n,xc,xB,m,xd⟩:=x
 replace hm:n=v.items.length∧m=v.names.length:=hm
 replace h7:RdG namK W xB m v.names:=h7
 obtain ⟨hn,hm⟩:=hm
 have hit:∀ i,hitT v i s=decide (v.names.getD i []=s.name.data.toList):=fun i=>by
   unfold hitT
   rw[if_pos h5,decide_eq_true hk,decide_eq_false (show ¬ s.kind=1 by omega)]
   simp
 have hmn:m=n:=by omega
 subst hmn
 clear hv h5
 show Calls _ _ #[.agg #[.int .i64 xk,.int .i64 xf,.int .i64 xt,.string ⟨xx.toArray⟩,.slice xA m xc,.slice xB m xd],.string s.name] W _
 generalize (⟨xx.toArray⟩:ByteArray)=xs at *
 obtain ⟨W2,hW2⟩:∃ W2,W2=W.alloc (.cells #[.int .i64 xk,.int .i64 xf,.int .i64 xt,.string xs,.slice xA m xc,.slice xB m xd] 29):=⟨_,rfl⟩
 have HO:=hid (show Own W2 W.heap.size 29 #[.int .i64 xk,.int .i64 xf,.int .i64 xt,.string xs,.slice xA m xc,.slice xB m xd] by rw[hW2];exact Own.fresh W 29 _)
 have HB2:=hid (show Below W.heap.size W W2 by rw[hW2];exact below1s W _)
 have HW2:=hid hW2
 have HMN:=hid (show (min (m:Int) m)=m by omega)
 have H7:=hid h7
 have HIT:=hid hit
 have HN:=hid hn
 have hm9:(m:Int)≤1000:=by omega
 clear hW2 h7 hit hn hm
 go_enter Tryz.func28,Tryz.ntmps28
 go_wp2
 go_loopw [5,14] (fun vo i wr=>RelNd16 W2 v s vo i wr) (fun _ i _=>v.items.length-(intOf i).toNat)
 case atStart =>
   rw[← HW2.out]
   exact ⟨0,_,rfl,Nat.zero_le _,rfl,by rw[pre_zero];exact GRow.nil _ _,Below.refl _ _⟩
 case round =>
   obtain ⟨k,V,rfl,hk1,rfl,hq,hb⟩:=hrel
   have hnn:=HN.out
   have hk9:(k:Int)≤1000:=by omega
   by_cases hlt:k<v.items.length
   rotate_left
   ·have hltI:¬ (k:Int)<m:=by omega
    have HQ:=hid (show GRow plcK wr W.heap.size V (childT v s) by
      rw[← pre_child,show v.items.length=k by omega]
      exact hq.mono HB2.out.size)
    have HB:=hid (HB2.out.trans (hb.mono HB2.out.size))
    clear hq hb hnn
    go_wp2
    go_ret
    exact ⟨_,rfl,HQ.out,HB.out⟩
   have hltI:(k:Int)<m:=by omega
   obtain ⟨nb,no,hxB,hnb,hc⟩:=nam_cell H7.out (i:=k) (by omega)
   subst hxB
   have hc2:=((HB2.out.trans (hb.mono HB2.out.size)).cell (p:=⟨nb,no+k,none⟩) hnb).trans hc
   have o:=HO.out.stay hb HO.out.inside
   have c5:=o.at 5
   simp at c5
   have HQ:=hid hq
   have HB:=hid hb
   have hw0:=HB2.out.size
   have hw1:=hb.size
   have hpl:=pre_len v s k
   have hH:=HIT.out k
   have hNB:=name_beq (v.names.getD k []) s.name
   clear o hc hq hb HIT hnn
   generalize (⟨(v.names.getD k []).toArray⟩:ByteArray)=nm at *
   by_cases hh:v.names.getD k []=s.name.data.toList
   ·rw [decide_eq_true hh] at hH hNB
    have HPN:=hid (pre_up hH (fun g=>by omega))
    have HN4:=hid (new_plc wr k W2.heap.size (by omega))
    have HQ4:=hid (HQ.out.keepB (below1s wr (.cells #[.int .i64 k] 3)) (Nat.le_refl _))
    have HB5:=hid (HB.out.trans ((below1s wr (.cells #[.int .i64 k] 3)).mono HB.out.size))
    clear hH hh
    go_wp2_with (first
      | (at_builtin
         go_must (
         refine row_append (K:=plcK) _ rfl (.tmp 24) (.tmp 26) rfl W2.heap.size _ (preT v s k) rfl HQ4.out _ 1 1 [k] rfl HN4.out.rd (by simp;omega) (by simp;omega) ?_
         intro v6 w6 row6 grown6 at6
         have HB6:=hid (below_grown HB5.out grown6 HB5.out.size (fun g' hg'=>(HQ4.out.low (g:=g') hg').1))
         have R6:=hid row6
         clear grown6 at6 row6)))
    go_roundw
    case rel=>exact ⟨k+1,_,rfl,hlt,by go_num,by rw[HPN.out];exact R6.out,HB6.out⟩
    case measure=>simp[intOf];omega
   ·rw[decide_eq_false hh] at hH hNB
    have HPN:=hid (pre_not hH)
    clear hH hh
    go_wp2
    go_roundw
    case rel=>exact ⟨k+1,_,rfl,hlt,by go_num,by rw[HPN.out];exact HQ.out,HB.out⟩
    case measure=>simp[intOf];omega
end
section
open Go.RowKit
theorem make_row {α:Type} (K:RowK α) (w:World) (n:Nat) (hn:n≤1000000) :
   (Instr.makeSlice K.S (.int .i64 n) (.int .i64 n)).run Tryz.prog w=.ok (.slice (some ⟨w.heap.size,0,none⟩) n n) (w.alloc (.cells (madeCells K.zero.cells (n*K.n)) K.T)):=by
 have hinfo:=K.info
 cases hq:Tryz.prog.info? K.T with
 | none=>rw[hq] at hinfo;cases hinfo
 | some i =>
   rw[hq] at hinfo
   simp only [Option.map_some,Option.some.injEq,Prod.mk.injEq] at hinfo
   obtain ⟨h1,h2,h3⟩:=hinfo
   have hs:=K.small
   have hb:(i.bytes:Int)*(n:Int)≤281474976710656:=by
     have h4:i.bytes*n≤1000*1000000:=Nat.mul_le_mul (by omega) hn
     have h5:(i.bytes:Int)*(n:Int)=((i.bytes*n:Nat):Int):=by simp
     rw[h5]
     omega
   have:=run_make (P:=Tryz.prog) w K.S K.T i K.zero K.under hq h1 .i64 .i64 n n (by omega) (by omega) hb (by omega)
   rw[h2] at this
   simpa using this
def uptoL (n k:Nat):List Nat:=(List.range n).map fun i=>if i<k then i else 0
theorem upto_len (n k:Nat):(uptoL n k).length=n:=by unfold uptoL;simp
theorem upto_zero (n:Nat):List.replicate n 0=uptoL n 0:=by
 unfold uptoL
 apply List.ext_getElem
 ·simp
 ·intro i h1 h2;simp
theorem upto_all (n:Nat):uptoL n n=List.range n:=by
 unfold uptoL
 apply List.ext_getElem
 ·simp
 ·intro i h1 h2
  have:i<n:=by simpa using h1
  simp[this]
theorem upto_set (n k:Nat):(uptoL n k).set k k=uptoL n (k+1):=by
 unfold uptoL
 apply List.ext_getElem
 ·simp
 ·intro i h1 h2
  rw[List.getElem_set]
  simp only [List.getElem_map,List.getElem_range]
  by_cases h:k=i
  ·subst h;simp
  ·by_cases h':i<k
   ·rw[if_neg h,if_pos h',if_pos (by omega)]
   ·rw[if_neg h,if_neg h',if_neg (by omega)]
theorem plc_all:∀ l:List Nat,plcK.all l=l.map fun i:Nat=>Value.int .i64 i
 | []=>rfl
 | a :: t=>by
   show Value.int .i64 a :: plcK.all t=_
   rw[plc_all t]
   rfl
def RelAl (W:World) (n:Nat) (i:Value) (wr:World):Prop :=
 ∃ k:Nat,k≤n∧i=.int .i64 k∧GRow plcK wr W.heap.size (.slice (some ⟨W.heap.size,0,none⟩) n n) (uptoL n k)∧Below W.heap.size W wr
theorem eall_any (n:Nat) (W:World) (hn:n≤1000):Calls Tryz.prog 29 #[.int .i64 n] W (ChEnd (List.range n) W):=by
 have hmk:=make_row plcK W n (by omega)
 rw[show plcK.zero.cells = #[Value.int .i64 0] by simp[plcK,Value.cells],show n*plcK.n=n from Nat.mul_one n,made_one] at hmk
 have hrow:GRow plcK (W.alloc (.cells (List.replicate n (Value.int .i64 0)).toArray 3)) W.heap.size (.slice (some ⟨W.heap.size,0,none⟩) n n) (uptoL n 0):=by
   have:=GRow.made (K:=plcK) (base:=W.heap.size) (l:=List.replicate n 0) W (List.replicate n (Value.int .i64 0)).toArray (by rw[plc_all,List.map_replicate];rfl) (by rw[List.length_replicate];unfold maxLen;omega) (Nat.le_refl _)
   rw[List.length_replicate,upto_zero] at this
   exact this
 have HR:=hid hrow
 have hn9:(n:Int)≤1000:=by omega
 clear hrow
 change (Instr.makeSlice 43 (.int .i64 n) (.int .i64 n)).run Tryz.prog W=.ok (.slice (some ⟨W.heap.size,0,none⟩) n n) (W.alloc (.cells (List.replicate n (Value.int .i64 0)).toArray 3)) at hmk
 go_enter Tryz.func29,Tryz.ntmps29
 go_wp2
 go_loopw [9] (fun i wr=>RelAl W n i wr) (fun i _=>n-(intOf i).toNat)
 case atStart=>exact ⟨0,Nat.zero_le _,rfl,HR.out,below1s _ _⟩
 case round =>
   obtain ⟨k,hk,rfl,hq,hb⟩:=hrel
   have hk9:(k:Int)≤1000:=by omega
   by_cases hlt:k<n
   rotate_left
   ·have hltI:¬ (k:Int)<n:=by omega
    have HQ:=hid (show GRow plcK wr W.heap.size (.slice (some ⟨W.heap.size,0,none⟩) n n) (List.range n) by
      rw[← upto_all,show uptoL n n=uptoL n k by rw[show k=n by omega]]
      exact hq)
    have HB:=hid hb
    clear hq hb hmk
    go_wp2
    go_ret
    exact ⟨_,rfl,HQ.out,HB.out⟩
   have hltI:(k:Int)<n:=by omega
   have hfz:=hq.free k
   have HQ:=hid (show GRow plcK (wr.setCell ⟨W.heap.size,k,none⟩ (.int .i64 k)) W.heap.size (.slice (some ⟨W.heap.size,0,none⟩) n n) (uptoL n (k+1)) by
     have:=hq.put (i:=k) (a:=k) (u:=.int .i64 k) rfl (by rw[upto_len];exact hlt) rfl
     rwa [upto_set] at this)
   have hcell:wr.cell? ⟨W.heap.size,k,none⟩=some (.int .i64 ((uptoL n k)[k]'(by rw[upto_len];exact hlt))):=by
     have:=hq.rd.at rfl (List.getElem?_eq_getElem (show k<(uptoL n k).length by rw[upto_len];exact hlt)) (j:=0) (u:=.int .i64 _) rfl
     rwa [show 0+(k*plcK.n+0)=k by show 0+(k*1+0)=k;omega] at this
   generalize (uptoL n k)[k]'(by rw[upto_len];exact hlt)=old at hcell
   have HB:=hid (show Below W.heap.size W (wr.setCell ⟨W.heap.size,k,none⟩ (.int .i64 k)) from hb.setCell (Nat.le_refl _) _)
   clear hq hb hmk
   go_wp2
   go_roundw
   case rel=>exact ⟨k+1,hlt,by go_num,HQ.out,HB.out⟩
   case measure=>simp[intOf];omega
end
section
open Go.RowKit
def PtrV (w:World) (b o:Nat) (x:V6):Prop :=
 b<w.heap.size∧w.cell? ⟨b,o,none⟩=some (.int .i64 x.kd)∧w.cell? ⟨b,o+1,none⟩=some (.int .i64 x.fr)∧w.cell? ⟨b,o+2,none⟩=some (.int .i64 x.to)∧w.cell? ⟨b,o+3,none⟩=some (.string ⟨x.tx.toArray⟩)∧w.cell? ⟨b,o+4,none⟩=some (.slice x.A x.n x.c)∧w.cell? ⟨b,o+5,none⟩=some (.slice x.B x.m x.d)
theorem PtrV.stay {w w':World} {b o:Nat} {x:V6} (h:PtrV w b o x) (hb:Below w.heap.size w w'):PtrV w' b o x:=by
 obtain ⟨h0,h1,h2,h3,h4,h5,h6⟩:=h
 have g:∀ j,w'.cell? ⟨b,j,none⟩=w.cell? ⟨b,j,none⟩:=fun j=>hb.cell (p:=⟨b,j,none⟩) h0
 exact ⟨Nat.lt_of_lt_of_le h0 hb.size,by rw[g];exact h1,by rw[g];exact h2,by rw[g];exact h3,by rw[g];exact h4,by rw[g];exact h5,by rw[g];exact h6⟩
theorem ptr_item {w:World} {v:Tree} {x:V6} {i:Nat} (hv:VIs w v x) (hi:i<v.items.length):∃ b o y,x.A=some ⟨b,o,none⟩∧PtrV w b (o+i*6) y∧VIs w (itmT v i) y:=by
 obtain ⟨kd,fr,td,tx,items,names⟩:=v
 unfold VIs at hv
 obtain ⟨_,_,_,_,_,_,_,xs,h8,h9⟩:=hv
 have hi:i<items.length:=hi
 obtain ⟨y,hy,hvy⟩:=h9.at i (itmT (.mk kd fr td tx items names) i) (items_getD (.mk kd fr td tx items names) hi)
 have hn:0<x.n:=by have:=h8.1;have:=h9.len;omega
 obtain ⟨b,o,e,hb,_⟩:=h8.2 hn
 have c:∀ j u,(v6Cells y)[j]?=some u→w.cell? ⟨b,o+(i*6+j),none⟩=some u:=fun j u hu=>h8.at e hy (j:=j) (u:=u) hu
 exact ⟨b,o,y,e,⟨hb,c 0 _ rfl,by rw[Nat.add_assoc];exact c 1 _ rfl,by rw[Nat.add_assoc];exact c 2 _ rfl,by rw[Nat.add_assoc];exact c 3 _ rfl,by rw[Nat.add_assoc];exact c 4 _ rfl,by rw[Nat.add_assoc];exact c 5 _ rfl⟩,hvy⟩
theorem estep_any (v:Tree) (x:V6) (b o i:Nat) (W:World) (hp:PtrV W b o x) (hv:VIs W v x) (h5:v.kd=5→i<v.names.length) (hi9:i≤1000000) :
   Calls Tryz.prog 62 #[.pointer (some ⟨b,o,none⟩),.int .i64 i] W
     fun e w'=>e=.returned (.agg #[.bool (stpT v i).named,.string ⟨(stpT v i).name.toArray⟩,.int .i64 (stpT v i).index])∧Below W.heap.size W w':=by
 obtain ⟨kd,fr,td,tx,items,names⟩:=v
 have hm:=hv.many
 have hk:x.kd=kd:=by unfold VIs at hv;exact hv.1
 have h7:RdG namK W x.B x.m names:=by unfold VIs at hv;exact hv.2.2.2.2.2.2.1
 have hmm:x.m=names.length:=hm.2
 obtain ⟨xk,xf,xt,xx,xA,n,xc,xB,m,xd⟩:=x
 replace hk:xk=kd:=hk
 replace h7:RdG namK W xB m names:=h7
 replace hmm:m=names.length:=hmm
 subst hk
 replace h5:xk=5→i<names.length:=h5
 clear hv hm
 have hst:stpT (.mk xk fr td tx items names) i=if xk=5 then ⟨true,names.getD i [],0⟩ else ⟨false,[],i⟩:=rfl
 rw[hst]
 clear hst
 have hps:=hp.stay (below1 W (.cells #[.bool false,.string ⟨#[]⟩,.int .i64 0] 86))
 obtain ⟨p0,p1,p2,p3,p4,p5,p6⟩:=hps
 replace p1:(W.alloc (.cells #[.bool false,.string ⟨#[]⟩,.int .i64 0] 86)).cell? ⟨b,o,none⟩=some (.int .i64 xk):=p1
 replace p6:(W.alloc (.cells #[.bool false,.string ⟨#[]⟩,.int .i64 0] 86)).cell? ⟨b,o+5,none⟩=some (.slice xB m xd):=p6
 clear p2 p3 p4 p5 hp
 have HB2:=hid (fun o=>below1s W o)
 have ho0:=Own.fresh W 86 #[.bool false,.string ⟨#[]⟩,.int .i64 0]
 by_cases k5:xk=5
 ·subst k5
  have hi:=h5 rfl
  obtain ⟨nb,no,rfl,hnb,hc⟩:=nam_cell h7 hi
  have hiI:(i:Int)<m:=by omega
  have hc2:=((HB2.out (.cells #[.bool false,.string ⟨#[]⟩,.int .i64 0] 86)).cell (p:=⟨nb,no+i,none⟩) hnb).trans hc
  rw[if_pos rfl]
  show Calls _ _ _ W fun e w'=>e=.returned (.agg #[.bool true,.string ⟨(names.getD i []).toArray⟩,.int .i64 0])∧_
  generalize (⟨(names.getD i []).toArray⟩:ByteArray)=nm at *
  have HO:=hid (Own.fresh W 86 #[.bool true,.string nm,.int .i64 0])
  clear h7 h5 hmm hc ho0
  go_enter Tryz.func62,Tryz.ntmps62
  go_wp2
  refine bodyPost_ret (results_cell_row rfl _ _ W.heap.size _ _ (0,0) _ rfl HO.out Tryz.underlying86 rfl step_size16) rfl ?_
  exact ⟨rfl,HB2.out _⟩
 ·have g5:(xk==5)=false:=beq_eq_false_iff_ne.2 k5
  have g5':(xk != 5)=true:=by simp[g5,bne]
  rw[if_neg k5]
  have HO:=hid (Own.fresh W 86 #[.bool false,.string ⟨#[]⟩,.int .i64 i])
  show Calls _ _ _ W fun e w'=>e=.returned (.agg #[.bool false,.string ⟨#[]⟩,.int .i64 i])∧_
  clear h7 h5 hmm ho0
  go_enter Tryz.func62,Tryz.ntmps62
  go_wp2
  refine bodyPost_ret (results_cell_row rfl _ _ W.heap.size _ _ (0,0) _ rfl HO.out Tryz.underlying86 rfl step_size16) rfl ?_
  exact ⟨rfl,HB2.out _⟩
def fndK:RowK NdV where
 T:=66
 S:=62
 n:=7
 bytes:=112
 zero:=.agg #[.int .i64 0,.int .i64 0,.int .i64 0,.string ⟨#[]⟩,.slice none 0 0,.slice none 0 0,.slice none 0 0]
 enc:=ndCells
 pos:=by decide
 len:=fun _=>rfl
 one:=fun x u h=>by
   simp[ndCells] at h
   rcases h with rfl|rfl|rfl|rfl|rfl|rfl|rfl<;>rfl
 under:=Tryz.underlying62
 info:=by kernel_rfl
 zlen:=rfl
 small:=by decide
structure VisV where
 b:Nat
 o:Nat
 k:Nat
 a:Nat
 A:Option Addr
 m:Nat
 c:Nat
 h:Nat
def visCells (s:VisV):List Value:=[.pointer (some ⟨s.b,s.o,none⟩),.int .i64 s.k,.int .i64 s.a,.slice s.A s.m s.c,.int .i64 s.h]
def visK:RowK VisV where
 T:=96
 S:=97
 n:=5
 bytes:=56
 zero:=.agg #[.pointer none,.int .i64 0,.int .i64 0,.slice none 0 0,.int .i64 0]
 enc:=visCells
 pos:=by decide
 len:=fun _=>rfl
 one:=fun x u h=>by
   simp[visCells] at h
   rcases h with rfl|rfl|rfl|rfl|rfl<;>rfl
 under:=Tryz.underlying97
 info:=by kernel_rfl
 zlen:=rfl
 small:=by decide
theorem run_row_fresh {α:Type} (K:RowK α) (w:World) (ty:TypeId) (A:Option Addr) (n:Nat) (l:List α) (hr:RdG K w A n l) (x:α) (A':Option Addr) (c':Nat) (hx:RdG K w A' 1 [x]) (h63:l.length≤1000000) (base:Nat) (hbase:base≤w.heap.size) :
   ∃ v' w',(Builtin.append_ #[K.S,K.S] ty #[.slice A n n,.slice A' 1 c']).run Tryz.prog w=.ok v' w'∧GRow K w' base v' (l++[x])∧w.grownBy w' none∧v'.ownBlock=some w.heap.size:=by
 obtain ⟨i,hi,hz,hsize,hby⟩:=info_parts K.info
 have hsm:=K.small
 have hpos:=K.pos
 have hlen:(l++[x]).length=n+1:=by rw[List.length_append,hr.1];rfl
 have hln:l.length=n:=hr.1
 obtain ⟨b',o',rfl,_,hc'⟩:=hx.2 (by omega)
 have hnews:∀ j v,(K.enc x)[j]?=some v→w.cell? ((⟨b',o',none⟩:Addr).add j)=some v:=fun j v hv=>by
   rw[add_none]
   refine hc' j v ?_
   show (K.enc x++K.all [])[j]?=some v
   rw[show K.all ([]:List α)=[] from rfl,List.append_nil]
   exact hv
 have hel:(K.enc x).length=1*i.size:=by rw[K.len,hsize,Nat.one_mul]
 have h63':n+1≤maxLen:=by unfold maxLen;omega
 have hbytes:(n+1)*K.bytes≤140737488355328:=by
   have:=Nat.mul_le_mul (show n+1≤1000001 by omega) hsm
   omega
 have fin:∀ old,old<n+1→GRow K (w.drew.alloc (.cells ((K.all l).toArray++(K.enc x).toArray++Builtin.zeroCells K.zero.cells (grownCap w (n+1) old K.T-(n+1))) K.T)) base (.slice (some ⟨w.heap.size,0,none⟩) (n+1) (grownCap w (n+1) old K.T)) (l++[x]) ∧
     w.grownBy (w.drew.alloc (.cells ((K.all l).toArray++(K.enc x).toArray++Builtin.zeroCells K.zero.cells (grownCap w (n+1) old K.T-(n+1))) K.T)) none:=by
   intro old ho
   have hge:=grownCap_ge w (n+1) old K.T
   have hcm:=grownCap_le_maxLen w (n+1) old K.T h63'
   refine ⟨?_,⟨rfl,rfl,rfl,by simp,fun k hk _=>Below.heap_alloc w.drew _ k hk⟩⟩
   unfold GRow
   rw[hlen]
   have e1:K.all (l++[x])=K.all l++K.enc x:=by rw[K.all_append];show K.all l++(K.enc x++[])=_;rw[List.append_nil]
   have e2:(K.all l++K.enc x).length=(n+1)*K.n:=by rw[List.length_append,K.all_len,K.len,hln,Nat.add_mul,Nat.one_mul]
   rw[e1]
   refine ⟨e2,.inr ⟨w.heap.size,_,_,rfl,hbase,heap_alloc_new w.drew _,hge,hcm,?_,?_⟩⟩
   ·simp only [Array.size_append,List.size_toArray,size_zeroCells,K.zlen]
    rw[List.length_append] at e2
    have e5:n+1+(grownCap w (n+1) old K.T-(n+1))=grownCap w (n+1) old K.T:=by omega
    rw[e2,← Nat.add_mul,e5]
   ·simp only [Array.toList_append]
    rw[← e2]
    exact List.take_left
 cases A with
 | none =>
   have hn0:n=0:=by
     by_cases h:0<n
     ·obtain ⟨b,o,e,_⟩:=hr.2 h
      cases e
     ·omega
   subst hn0
   obtain rfl:l=[]:=List.eq_nil_of_length_eq_zero hln
   have hrun:=run_append_nil (P:=Tryz.prog) w K.S ty K.T i K.zero K.under hi hz ⟨b',o',none⟩ 1 c' (K.enc x) hel hnews (by omega) (by omega) (by rw[hby];omega)
   obtain ⟨f1,f2⟩:=fin 0 (by omega)
   exact ⟨_,_,by simpa [RowK.all] using hrun,by simpa [RowK.all] using f1,by simpa [RowK.all] using f2,rfl⟩
 | some ad =>
   have holds:∀ j v,(K.all l)[j]?=some v→w.cell? (ad.add j)=some v:=by
     intro j v hv
     have hn:0<n:=by
       have h2:=(List.getElem?_eq_some_iff.1 hv).1
       rw[K.all_len] at h2
       rcases Nat.eq_zero_or_pos l.length with h|h
       ·rw[h] at h2;simp at h2
       ·omega
     obtain ⟨b,o,e,_,h⟩:=hr.2 hn
     rw[Option.some.inj e,add_none]
     exact h j v hv
   have hrun:=run_append_grow (P:=Tryz.prog) w K.S ty K.T i K.zero K.under hi hz ad n n (K.all l) (by rw[K.all_len,hln,hsize]) holds ⟨b',o',none⟩ 1 c' (K.enc x) hel hnews (by omega) (by unfold maxLen at h63';omega) (growslice_fits (by omega) (by rw[hby];exact hbytes))
   obtain ⟨f1,f2⟩:=fin n (by omega)
   exact ⟨_,_,hrun,f1,f2,rfl⟩
theorem step_row_fresh {α:Type} {KK:RowK α} {ops:Array Oper} {o:Oper} {a:Act} {w:World} {K:Act→World→Prop} {Q:Exit→Act→World→Prop} {E:Prop} (hgd:o.guard=none) (s x:Operand) (ho:o.op=.call { callee:=.builtin .append,args:=#[s,x],argTypes:=#[KK.S,KK.S] })
   (A:Option Addr) (n:Nat) (l:List α) (hs:a.eval s=.slice A n n) (hr:RdG KK w A n l) (y:α) (A':Option Addr) (c':Nat) (hx:a.eval x=.slice A' 1 c') (hy:RdG KK w A' 1 [y]) (h63:l.length≤1000000) (base:Nat) (hbase:base≤w.heap.size)
   (hK:∀ v' w',GRow KK w' base v' (l++[y])→w.grownBy w' none→v'.ownBlock=some w.heap.size→K (a.put o.dst v') w'):if Region.wanted o (yielded ops a.tmps)=true then Oper.wp Tryz.prog o a w K Q else E:=by
 have hw:Region.wanted o (yielded ops a.tmps)=true:=by simp[Region.wanted,hgd]
 rw[if_pos hw]
 obtain ⟨v',w',hrun,h2,h3,h5⟩:=run_row_fresh KK w o.type A n l hr y A' c' hy h63 base hbase
 unfold Oper.wp execOp
 simp only [ho,resolve,invoke,builtin,Sem.run_bind,Sem.run_pure,Result.andThen_ok,List.map_toArray,List.map_cons,List.map_nil,hs,hx,hrun]
 exact hK v' w' h2 h3 h5
end
end Go.Proofs.YtnokhgfifbkflaaGreat
