/- Lemmas. -/
import Derived.Test.YtnokhgfifbkflaaGreatJ04
import Derived.Test.YtnokhgfifbkflaaGreatJ06
set_option maxRecDepth 100000
set_option maxHeartbeats 8000000
set_option linter.unusedVariables false
namespace Go.Proofs.YtnokhgfifbkflaaGreat
section
open Go.RowKit
theorem below1 (w:World)(a:Obj):Below w.heap.size w (w.alloc a):=(Below.refl w.heap.size w).alloc (Nat.le_refl _) a
theorem below2 (w:World) (a b:Obj):Below w.heap.size w ((w.alloc a).alloc b) :=
 have h:=(Below.refl w.heap.size w).alloc (Nat.le_refl _) a
 h.alloc h.size b
theorem below_drewN {B:Nat}{a w:World}(h:Below B a w)(n:Nat):Below B a (w.drewN n):=⟨h.os,h.tape,h.output,h.size,h.block⟩
def byteCells (l:List UInt8):List Value:=l.map fun c=>Value.int .u8 c.toNat
theorem byteCells_nums (l:List UInt8):byteCells l=(nums l).map (Value.int .u8):=by simp[byteCells,nums]
theorem byteCells_length (l:List UInt8):(byteCells l).length=l.length:=by simp[byteCells]
theorem byteCells_append (l m:List UInt8):byteCells (l++m)=byteCells l++byteCells m:=by simp[byteCells]
theorem byteCells_one (l:List UInt8):∀ u∈byteCells l,u.oneCell'=true:=by rw[byteCells_nums];exact ints_one _ _
theorem strOf_nums (l:List UInt8):strOfNums (nums l)=⟨l.toArray⟩:=by
 have e:(strOfNums (nums l)).data.toList=l:=by
   rw[strOfNums_data]
   unfold nums
   rw[List.map_map]
   conv=>rhs;rw[← List.map_id l]
   exact List.map_congr_left fun c _=>by simp
 generalize strOfNums (nums l)=s at *
 cases s with|mk x =>
 have e:x.toList=l:=e
 rw[← e]
theorem IsRow.bytes {w:World} {A:Option Addr} {len cap:Nat} {zs:List Int} (h:IsRow .u8 w A len cap zs):∃ l:List UInt8,Rd w w.heap.size A len (byteCells l):=by
 refine ⟨(zs.take len).map fun z=>UInt8.ofNat z.toNat,?_⟩
 have e:byteCells ((zs.take len).map fun z=>UInt8.ofNat z.toNat)=(zs.take len).map (Value.int .u8):=by
   unfold byteCells
   rw[List.map_map]
   refine List.map_congr_left fun z hz => ?_
   have hw:=h.wf z (List.mem_of_mem_take hz)
   simp[Lit.wf,IntKind.min,IntKind.max,IntKind.signed,IntKind.bits] at hw
   simp
   omega
 rw[e]
 exact Rd.of_row h
def Buf (w:World) (base:Nat) (v:Value) (l:List UInt8):Prop :=
 ∃ g c:Nat,v=.slice (some ⟨g,0,none⟩) l.length c∧w.ownsRow base 5 1 v l.length (byteCells l)
section
variable {w w':World} {base:Nat} {v:Value} {l:List UInt8}
theorem Buf.form (h:Buf w base v l):∃ g c:Nat,v=.slice (some ⟨g,0,none⟩) l.length c∧base≤g∧g<w.heap.size:=by
 obtain ⟨g,c,rfl,ho⟩:=h
 obtain ⟨g',c',e,h1,h2,_⟩:=own_form ho (by intro e;cases e)
 injection e with e1 _ _
 injection e1 with e1
 injection e1 with e1
 exact ⟨g,c,rfl,by omega,by omega⟩
theorem Buf.stay (h:Buf w base v l) {B:Nat} (hb:Below B w w') (hB:w.heap.size≤B):Buf w' base v l:=by
 obtain ⟨g0,c0,e,_,hlt⟩:=h.form
 obtain ⟨g,c,rfl,ho⟩:=h
 refine ⟨g,c,rfl,own_stay ho hb fun k hk => ?_⟩
 injection e with e1 _ _
 injection e1 with e1
 injection e1 with e1
 rw[ownBlock_is hk]
 omega
theorem Buf.conv (h:Buf w base v l):(convert 22 9 v).run Tryz.prog w=.ok (.string ⟨l.toArray⟩) w:=by
 obtain ⟨g,c,rfl,ho⟩:=h
 have:=Rd.of_owned ho
 rw[byteCells_nums] at this
 rw[conv_rd this,strOf_nums]
theorem Buf.made (w:World) (cs:Array Value) (l:List UInt8) (hc:cs=(byteCells l).toArray) (hl:l.length≤maxLen) (hb:base≤w.heap.size):Buf (w.alloc (.cells cs 5)) base (.slice (some ⟨w.heap.size,0,none⟩) l.length l.length) l:=by
 subst hc
 refine ⟨_,_,rfl,⟨by simp[byteCells_length],.inr ⟨w.heap.size,l.length,_,rfl,hb,heap_alloc_new w _,Nat.le_refl _,hl,by simp[byteCells_length],?_⟩⟩⟩
 simp[List.take_of_length_le,byteCells_length]
end
section
variable {ops:Array Oper} {rest:List Oper} {o:Oper} {a:Act} {Q:Exit→Act→World→Prop}
theorem buf_append (w:World) (hgd:o.guard=none) (s x:Operand) (ho:o.op=.call { callee:=.builtin .append,args:=#[s,x],argTypes:=#[22,22] })
   (base:Nat) (v:Value) (l:List UInt8) (hs:a.eval s=v) (hown:Buf w base v l) (B:Nat) (A:Option Addr) (m c:Nat) (news:List UInt8) (hx:a.eval x=.slice A m c) (hr:Rd w B A m (byteCells news))
   (h63:l.length+m≤140737488355328-4096) (hbase:base≤w.heap.size)
   (h:∀ v' w',Buf w' base v' (l++news)→Below base w w'→wpList Tryz.prog ops Q rest (a.put o.dst v') w'):wpList Tryz.prog ops Q (o :: rest) a w:=by
 obtain ⟨i0,hi,hz0,hz1,hz2⟩:=info_parts byte_info
 have hm:news.length=m:=by have:=hr.1;rwa [byteCells_length] at this
 obtain ⟨g0,c0,ev,hg0,_⟩:=hown.form
 obtain ⟨g,c',rfl,hown⟩:=hown
 refine wpList_append_rd w hgd s x _ ho base 5 i0 _ 1 Tryz.underlying22 hi hz0 hz1 hz2 rfl _ l.length (byteCells l) hs hown B A m c (byteCells news) hx hr (byteCells_one _) (by unfold maxLen;omega) (by omega) hbase ?_
 intro v' w' h2 hg hnil hat
 have hne:v'≠.slice none 0 0:=fun e=>by have:=hnil.1 e;simp at this
 obtain ⟨g2,c2,e2,_⟩:=own_form h2 hne
 refine h v' w' ⟨g2,c2,by rw[e2,List.length_append,hm],?_⟩ ((Below.refl base w).grown hg hbase fun k hk => ?_)
 ·rw[List.length_append,hm,byteCells_append]
  exact h2
 ·injection ev with e1 _ _
  injection e1 with e1
  injection e1 with e1
  rw[ownBlock_is hk]
  omega
end
end
section
open Go.RowKit
inductive QSt where
 | plain
 | sign (sg lf:Int) (p:List UInt8)
 | esc
 | hex (k:Nat) (v:Int)
 | half (h:Int)
 | hesc (h:Int)
 | hhex (h:Int) (k:Nat) (v:Int)
 | done
def hexB (c:UInt8):Option Int :=
 if 48≤c.toNat∧c.toNat≤57 then some (c.toNat-48) else if 97≤c.toNat∧c.toNat≤102 then some (c.toNat-87) else if 65≤c.toNat∧c.toNat≤70 then some (c.toNat-55) else none
def letB (c:UInt8):UInt8:=if c=34 then 34 else if c=92 then 92 else if c=47 then 47 else if c=98 then 8 else if c=102 then 12 else if c=110 then 10 else if c=114 then 13 else if c=116 then 9 else 0
def ofB (v:Int):List UInt8:=(ofI v).map fun x=>UInt8.ofNat x.toNat
def stepQ:QSt→UInt8→Option (QSt×List UInt8)
 | .plain,c=>if c=34 then some (.done,[]) else if c=92 then some (.esc,[]) else if c.toNat<32 then none else
     if okU 0 0 c.toNat then (if lfU 0 c.toNat=0 then some (.plain,[c]) else some (.sign (sgU 0 0 c.toNat) (lfU 0 c.toNat) [c],[])) else none
 | .sign sg lf p,c=>if okU sg lf c.toNat then (if lfU lf c.toNat=0 then some (.plain,p++[c]) else some (.sign (sgU sg lf c.toNat) (lfU lf c.toNat) (p++[c]),[])) else none
 | .esc,c=>if c=117 then some (.hex 0 0,[]) else if letB c=0 then none else some (.plain,[letB c])
 | .hex k v,c=>match hexB c with
   | none=>none
   | some d=>if k=1∧220≤v*16+d∧v*16+d≤223 then none else
       if k=3 then (if 55296≤v*16+d∧v*16+d≤56319 then some (.half (v*16+d),[]) else some (.plain,ofB (v*16+d))) else some (.hex (k+1) (v*16+d),[])
 | .half h,c=>if c=92 then some (.hesc h,[]) else none
 | .hesc h,c=>if c=117 then some (.hhex h 0 0,[]) else none
 | .hhex h k v,c=>match hexB c with
   | none=>none
   | some d=>if k=0∧d≠13 then none else if k=1∧(v*16+d<220∨223<v*16+d) then none else
       if k=3 then some (.plain,ofB (65536+(h-55296)*1024+(v*16+d-56320))) else some (.hhex h (k+1) (v*16+d),[])
 | .done,_=>none
def readQ:QSt→List UInt8→List UInt8→Nat→Option (List UInt8×Nat)
 | _,[],_,_=>none
 | st,c :: t,acc,n=>match stepQ st c with
   | none=>none
   | some (.done,e)=>some (acc++e,n+1)
   | some (st',e)=>readQ st' t (acc++e) (n+1)
theorem readQ_on {st st':QSt} {c:UInt8} {e:List UInt8} (h:stepQ st c=some (st',e)) (hd:st'≠.done) (t acc:List UInt8) (n:Nat):readQ st (c :: t) acc n=readQ st' t (acc++e) (n+1):=by
 conv=>lhs;unfold readQ
 rw[h]
 cases st'
 case done=>exact absurd rfl hd
 all_goals rfl
theorem step_sign (sg lf:Int)(p:List UInt8)(c:UInt8):stepQ (.sign sg lf p) c=if okU sg lf c.toNat then (if lfU lf c.toNat=0 then some (.plain,p++[c]) else some (.sign (sgU sg lf c.toNat) (lfU lf c.toNat) (p++[c]),[])) else none:=rfl
theorem step_plain (c:UInt8):stepQ .plain c=if c=34 then some (.done,[]) else if c=92 then some (.esc,[]) else if c.toNat<32 then none else
     if okU 0 0 c.toNat then (if lfU 0 c.toNat=0 then some (.plain,[c]) else some (.sign (sgU 0 0 c.toNat) (lfU 0 c.toNat) [c],[])) else none:=rfl
def Reach (p:List UInt8)(sg lf:Int):Prop:=StU sg lf ∧ ∀ rest,runU 0 0 (p++rest) 0=runU sg lf rest p.length
theorem reach_nil:Reach [] 0 0:=⟨stU_zero,fun _=>rfl⟩
theorem reach_step {p:List UInt8} {sg lf:Int} (h:Reach p sg lf) {c:UInt8} (hk:okU sg lf c.toNat=true):Reach (p++[c]) (sgU sg lf c.toNat) (lfU lf c.toNat) :=
 ⟨stU_step h.1 (Int.natCast_nonneg _) hk,fun rest=>by
   rw[List.append_assoc,h.2]
   show (if okU sg lf c.toNat then runU _ _ rest (p.length+1) else _)=_
   rw[if_pos hk]
   simp⟩
theorem reach_whole {p:List UInt8} {sg:Int} (h:Reach p sg 0):badU p = -1:=by
 have:=h.2 []
 rw[List.append_nil] at this
 exact this
theorem bad_cat {l m:List UInt8} (hl:badU l = -1) (hm:badU m = -1):badU (l++m) = -1:=by
 rw[(badU_append l m).1 hl,if_pos hm]
theorem bad_ofB (v:Int) (h0:0≤v) (h9:v≤1114111) (hs:v<55296∨57343<v):badU (ofB v) = -1:=by
 have:=badU_of v h0 h9 hs
 rw[strOfNums_data] at this
 exact this
theorem step_hex (k:Nat) (v d:Int) (c:UInt8) (h:hexB c=some d):stepQ (.hex k v) c=if k=1∧220≤v*16+d∧v*16+d≤223 then none else
       if k=3 then (if 55296≤v*16+d∧v*16+d≤56319 then some (QSt.half (v*16+d),[]) else some (QSt.plain,ofB (v*16+d))) else some (QSt.hex (k+1) (v*16+d),[]):=by
 show (match hexB c with
   | none=>none
   | some d=>if k=1∧220≤v*16+d∧v*16+d≤223 then none else
       if k=3 then (if 55296≤v*16+d∧v*16+d≤56319 then some (QSt.half (v*16+d),[]) else some (QSt.plain,ofB (v*16+d))) else some (QSt.hex (k+1) (v*16+d),[]))=_
 rw[h]
theorem step_hex_none (k:Nat)(v:Int)(c:UInt8)(h:hexB c=none):stepQ (.hex k v) c=none:=by simp only [stepQ,h]
theorem step_hhex (g:Int) (k:Nat) (v d:Int) (c:UInt8) (h:hexB c=some d):stepQ (.hhex g k v) c=if k=0∧d≠13 then none else if k=1∧(v*16+d<220∨223<v*16+d) then none else
       if k=3 then some (QSt.plain,ofB (65536+(g-55296)*1024+(v*16+d-56320))) else some (QSt.hhex g (k+1) (v*16+d),[]):=by simp only [stepQ,h]
theorem step_hhex_none (g:Int)(k:Nat)(v:Int)(c:UInt8)(h:hexB c=none):stepQ (.hhex g k v) c=none:=by simp only [stepQ,h]
end
section
open Go.RowKit
theorem hexB_in {c:UInt8} {d:Int} (h:hexB c=some d):0≤d∧d≤15:=by
 unfold hexB at h
 split at h
 ·have:=Option.some.inj h;omega
 ·split at h
  ·have:=Option.some.inj h;omega
  ·split at h
   ·have:=Option.some.inj h;omega
   ·cases h
def WQ:QSt→Prop
 | .sign sg lf p=>Reach p sg lf
 | .hex k v=>(k=0∧v=0)∨(k=1∧0≤v∧v≤15)∨(k=2∧0≤v∧v≤255∧(v<220∨223<v))∨(k=3∧0≤v∧v≤4095∧(v<3520∨3583<v))
 | .half h=>55296≤h∧h≤56319
 | .hesc h=>55296≤h∧h≤56319
 | .hhex h k v=>55296≤h∧h≤56319∧((k=0∧v=0)∨(k=1∧v=13)∨(k=2∧220≤v∧v≤223)∨(k=3∧3520≤v∧v≤3583))
 | _=>True
theorem bad_one (c:UInt8) (h:c.toNat<128):badU [c] = -1:=by
 have:=reach_step reach_nil (c:=c) (okU_0 _ (by omega) 0)
 rw[show lfU 0 c.toNat=0 by unfold lfU;(repeat' split)<;>omega] at this
 exact reach_whole this
theorem letB_small (c:UInt8):(letB c).toNat<128:=by
 unfold letB
 (repeat' split)<;>decide
theorem stepQ_ok {st st':QSt} {c:UInt8} {e:List UInt8} (hw:WQ st) (h:stepQ st c=some (st',e)):WQ st'∧badU e = -1:=by
 cases st with
 | done=>cases h
 | plain =>
   rw[step_plain] at h
   split at h
   ·cases h;exact ⟨trivial,rfl⟩
   split at h
   ·cases h;exact ⟨trivial,rfl⟩
   split at h
   ·cases h
   split at h
   ·rename_i hok
    have hr:=reach_step reach_nil hok
    split at h
    ·rename_i hz
     cases h
     rw[hz] at hr
     exact ⟨trivial,reach_whole hr⟩
    ·cases h;exact ⟨hr,rfl⟩
   ·cases h
 | sign sg lf p =>
   rw[step_sign] at h
   split at h
   ·rename_i hok
    have hr:=reach_step hw hok
    split at h
    ·rename_i hz
     cases h
     rw[hz] at hr
     exact ⟨trivial,reach_whole hr⟩
    ·cases h;exact ⟨hr,rfl⟩
   ·cases h
 | esc =>
   have h:(if c=117 then some (QSt.hex 0 0,[]) else if letB c=0 then none else some (QSt.plain,[letB c]))=some (st',e):=h
   split at h
   ·cases h;exact ⟨.inl ⟨rfl,rfl⟩,rfl⟩
   split at h
   ·cases h
   ·cases h;exact ⟨trivial,bad_one _ (letB_small c)⟩
 | hex k v =>
   cases hd:hexB c with
   | none =>
     rw[step_hex_none _ _ _ hd] at h
     cases h
   | some d =>
     have hin:=hexB_in hd
     rw[step_hex _ _ _ _ hd] at h
     unfold WQ at hw
     split at h
     ·cases h
     split at h
     ·split at h
      ·cases h;exact ⟨by unfold WQ;omega,rfl⟩
      ·cases h;exact ⟨trivial,bad_ofB _ (by omega) (by omega) (by omega)⟩
     ·cases h;exact ⟨by unfold WQ;omega,rfl⟩
 | half g =>
   have h:(if c=92 then some (QSt.hesc g,[]) else none)=some (st',e):=h
   split at h
   ·cases h;exact ⟨hw,rfl⟩
   ·cases h
 | hesc g =>
   have h:(if c=117 then some (QSt.hhex g 0 0,[]) else none)=some (st',e):=h
   split at h
   ·cases h;exact ⟨⟨hw.1,hw.2,.inl ⟨rfl,rfl⟩⟩,rfl⟩
   ·cases h
 | hhex g k v =>
   cases hd:hexB c with
   | none =>
     rw[step_hhex_none _ _ _ _ hd] at h
     cases h
   | some d =>
     have hin:=hexB_in hd
     rw[step_hhex _ _ _ _ _ hd] at h
     obtain ⟨g1,g2,hw⟩:=hw
     split at h
     ·cases h
     split at h
     ·cases h
     split at h
     ·cases h;exact ⟨trivial,bad_ofB _ (by omega) (by omega) (by omega)⟩
     ·cases h;exact ⟨⟨g1,g2,by omega⟩,rfl⟩
theorem read_least (l:List UInt8):∀ (st:QSt) (acc:List UInt8) (n:Nat) (u:List UInt8) (m:Nat),readQ st l acc n=some (u,m)→n<m∧m≤n+l.length:=by
 induction l with
 | nil=>intro st acc n u m h;cases h
 | cons c t ih =>
   intro st acc n u m h
   cases hs:stepQ st c with
   | none =>
     unfold readQ at h
     rw[hs] at h
     cases h
   | some x =>
     obtain ⟨st',e⟩:=x
     by_cases hd:st'=.done
     ·subst hd
      unfold readQ at h
      rw[hs] at h
      cases h
      simp
     ·rw[readQ_on hs hd] at h
      have:=ih _ _ _ _ _ h
      simp
      omega
end
end Go.Proofs.YtnokhgfifbkflaaGreat
