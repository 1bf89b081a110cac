/- Lemmas. -/
import Derived.Test.YtbpilcklglhloaaGreatDoorJ12
import Derived.Laws.Bits64b
import Derived.Laws.BitsAllLaws
import Derived.StillTailTactics
set_option maxRecDepth 100000
set_option maxHeartbeats 8000000
set_option linter.unusedVariables false
namespace Go.Proofs.YtbpilcklglhloaaGreatDoor
open Go.Lib (hid)
namespace KB
open Go.RowKit
structure RestB where
 x0:Value
 x1:Value
 x2:Value
 x5:Value
variable {Rs:RestB}
theorem below1f (w:World)(a:Obj):Below w.heap.size w (w.alloc a):=(Below.refl w.heap.size w).alloc (Nat.le_refl _) a
def wordK:RowK Nat where
 T:=156
 S:=99
 n:=1
 bytes:=8
 zero:=.int .u64 0
 enc:=fun a=>[.int .u64 a]
 pos:=by decide
 len:=fun _=>rfl
 one:=fun a u h=>by
   obtain rfl:u=.int .u64 a:=by simpa using h
   rfl
 under:=Tryz.underlying99
 info:=by kernel_rfl
 zlen:=rfl
 small:=by decide
def bitOf (ws:List Nat)(i:Nat):Bool:=(ws.getD (i/64) 0).testBit (i%64)
structure RawN (Rs:RestB) (w:World) (b:Nat) (F:Nat→Prop) (l:List Bool) (ws:List Nat) (v:Value) (N:Nat):Prop where
 own:Own w b 104 #[Rs.x0,Rs.x1,Rs.x2,v,.int .i64 l.length,Rs.x5]
 row:GRow wordK w 0 v ws
 foot:∀ k,F k↔k=b∨v.ownBlock=some k
 apart:v.ownBlock≠some b
 many:ws.length=N
 bit:∀ i,i<l.length→bitOf ws i=l.getD i false
 small:∀ x∈ws,x<18446744073709551616
def StP (Rs:RestB)(w:World)(b:Nat)(F:Nat→Prop)(l:List Bool):Prop:=∃ ws v,RawN Rs w b F l ws v ((l.length+63)/64)
theorem pow_small (k:Nat):2 ^ (k%64)<18446744073709551616:=by
 have:2 ^ (k%64)<2 ^ 64:=Nat.pow_lt_pow_right (by decide) (by omega)
 simpa using this
theorem wrap64 (n:Nat) (h:n<18446744073709551616):IntKind.u64.wrap (n:Int)=n:=by
 simp[IntKind.wrap,IntKind.bits,IntKind.signed]
 omega
theorem mask_at (k:Nat) (w:World) (hk:k≤100000) :
   Calls Tryz.prog 104 #[.int .i64 k] w fun e w'=>e=.returned (.int .u64 ((2 ^ (k%64):Nat):Int))∧w'=w:=by
 have hp:=pow_small k
 have hm:min (k%64) 64=k%64:=by omega
 go_enter Tryz.func104,Tryz.ntmps104
 go_wp2
 go_ret
 exact ⟨ret_i (by
   have:=wrap64 _ hp
   rwa [Int.natCast_pow] at this
   ),rfl⟩
theorem bit_snoc (ws:List Nat) (i:Nat):bitOf (ws++[0]) i=bitOf ws i:=by
 unfold bitOf
 rw[List.getD_eq_getElem?_getD,List.getD_eq_getElem?_getD]
 by_cases h:i/64<ws.length
 ·rw[List.getElem?_append_left h]
 ·rw[List.getElem?_append_right (by omega),List.getElem?_eq_none (l:=ws) (by omega)]
  rcases Nat.eq_zero_or_pos (i/64-ws.length) with e|e
  ·rw[e];rfl
  ·rw[List.getElem?_eq_none (by simp;omega)]
theorem row_slice {α:Type} {K:RowK α} {w:World} {base:Nat} {v:Value} {l:List α} (h:GRow K w base v l):∃ A m c,v=.slice A m c:=by
 obtain ⟨A,c,e,_⟩:=h.form
 exact ⟨A,_,c,e⟩
theorem own_grown {w w':World}{b:Nat}{t:TypeId}{cs:Array Value}{row:Option Nat}(h:Own w b t cs)(hg:w.grownBy w' row)(hn:row≠some b):Own w' b t cs:=(hg.block b h.inside (fun e=>hn e.symm)).trans h
section
variable {w w':World} {b N:Nat} {F:Nat→Prop} {l:List Bool} {ws:List Nat} {v:Value}
theorem RawN.drewN (h:RawN Rs w b F l ws v N) (q:Nat):RawN Rs (w.drewN q) b F l ws v N :=
 ⟨h.own,h.row.stay (fun _ _=>rfl),h.foot,h.apart,h.many,h.bit,h.small⟩
theorem RawN.self (h:RawN Rs w b F l ws v N):F b:=(h.foot b).2 (.inl rfl)
theorem RawN.blocks (h:RawN Rs w b F l ws v N) {g:Nat} (hg:v.ownBlock=some g):F g∧g≠b∧g<w.heap.size :=
 ⟨(h.foot g).2 (.inr hg),fun e=>h.apart (by rw[hg,e]),(h.row.low hg).2⟩
theorem RawN.inside (h:RawN Rs w b F l ws v N) {k:Nat} (hk:F k):k<w.heap.size:=by
 rcases (h.foot k).1 hk with rfl|e
 ·exact h.own.inside
 ·exact (h.blocks e).2.2
theorem RawN.move {G:Nat→Prop} (h:RawN Rs w b F l ws v N) (ht:Touch G w w') (hd:∀ k,F k→¬ G k):RawN Rs w' b F l ws v N :=
 ⟨ht.own h.own (hd b h.self),h.row.stay (fun g hg=>ht.block g (h.blocks hg).2.2 (hd g (h.blocks hg).1)),h.foot,h.apart,h.many,h.bit,h.small⟩
theorem RawN.word (h:RawN Rs w b F l ws v N) (j:Nat) (hj:j<ws.length) :
   ∃ g c x:Nat,v=.slice (some ⟨g,0,none⟩) ws.length c∧ws.length≤c∧g<w.heap.size∧g≠b∧F g∧ws.getD j 0=x∧w.cell? ⟨g,j,none⟩=some (.int .u64 x)∧w.frozen? ⟨g,j,none⟩=false∧(x:Int)<18446744073709551616:=by
 obtain ⟨A,c,hv,hc,_,hg⟩:=h.row.form
 obtain ⟨g,rfl,_,hlt⟩:=hg (by omega)
 have hr:=h.row
 rw[hv] at hr
 have hcell:=(hr.rd).at rfl (i:=j) (a:=ws[j]) (by simp[hj]) (j:=0) (u:=.int .u64 ws[j]) (by simp[wordK])
 have ho:v.ownBlock=some g:=by rw[hv];rfl
 refine ⟨g,c,ws[j],hv,hc,hlt,fun e=>h.apart (by rw[ho,e]),(h.foot g).2 (.inr ho),by rw[List.getD_eq_getElem?_getD,List.getElem?_eq_getElem hj];rfl,by simpa [wordK] using hcell,hr.free j,?_⟩
 have:=h.small _ (List.getElem_mem hj)
 omega
theorem RawN.grown {wa wb:World} {o:Obj} {v1:Value} (h:RawN Rs wa b F l ws v N) (row1:GRow wordK wb 0 v1 (ws++[0])) (hg:(wa.alloc o).grownBy wb v.ownBlock) (ha:v1.ownBlock=v.ownBlock∨v1.ownBlock=some (wa.alloc o).heap.size) :
   RawN Rs (wb.setCell ⟨b,3,none⟩ v1) b (fun k=>k=b∨v1.ownBlock=some k) l (ws++[0]) v1 (N+1)∧Touch F wa (wb.setCell ⟨b,3,none⟩ v1) ∧ ∀ k,k<wa.heap.size→(k=b∨v1.ownBlock=some k)→F k:=by
 have hsz:(wa.alloc o).heap.size=wa.heap.size+1:=by simp
 have hi:=h.own.inside
 have hne:v1.ownBlock≠some b:=by
   rcases ha with e|e
   ·rw[e];exact h.apart
   ·rw[e,hsz];intro e;injection e with e;omega
 have hd:=below1f wa o
 have ho:=own_grown (h.own.stay hd hi) hg h.apart
 refine ⟨⟨by simpa using ho.put 3 v1,row1.stay (fun g e=>Below.heap_setCell _ _ _ _ (fun e2=>hne (by rw[e];exact congrArg some e2))),fun k=>Iff.rfl,hne,by rw[List.length_append,h.many];rfl,fun i hi=>by rw[bit_snoc];exact h.bit i hi,fun x hx => ?_⟩,?_,?_⟩
 ·rcases List.mem_append.1 hx with hx|hx
  ·exact h.small x hx
  ·obtain rfl:x=0:=by simpa using hx
   decide
 ·exact (((Touch.of_new hd).grown hg (fun k e=>.inl ((h.foot k).2 (.inr e)))).setCell (p:=⟨b,3,none⟩) (.inl h.self) _)
 ·rintro k hk (rfl|e)
  ·exact h.self
  ·rcases ha with e2|e2
   ·exact (h.foot k).2 (.inr (e2.symm.trans e))
   ·rw[e2,hsz] at e;injection e with e;omega
theorem RawN.form (h:RawN Rs w b F l ws v N):∃ A c,v=.slice A N c∧N≤c:=by
 obtain ⟨A,c,hv,hc,_⟩:=h.row.form
 rw[h.many] at hv hc
 exact ⟨A,c,hv,hc⟩
end
theorem and_pow (x r:Nat):(((x &&& 2 ^ r:Nat):Int) != 0)=x.testBit r:=by
 have ht:(x &&& 2 ^ r).testBit r=x.testBit r:=by simp[Nat.testBit_and]
 cases hx:x.testBit r
 ·have:x &&& 2 ^ r=0:=by
    apply Nat.eq_of_testBit_eq
    intro i
    rw[Nat.testBit_and,Nat.testBit_two_pow,Nat.zero_testBit]
    by_cases e:r=i
    ·subst e;rw[hx];rfl
    ·simp[e]
  rw[this];rfl
 ·have:x &&& 2 ^ r≠0:=fun e=>by rw[e,hx,Nat.zero_testBit] at ht;cases ht
  rw[bne_iff_ne]
  omega
theorem at_at (b:Nat) (F:Nat→Prop) (l:List Bool) (ws:List Nat) (v:Value) (N k:Nat) (w:World) (h:RawN Rs w b F l ws v N) (hk:k<64*N) (hN:N≤1000) :
   Calls Tryz.prog 105 #[.pointer (some ⟨b,3,none⟩),.int .i64 k] w fun e w'=>e=.returned (.bool (bitOf ws k)) ∧ ∃ q,w'=w.drewN q:=by
 have hj:k/64<ws.length:=by rw[h.many];omega
 obtain ⟨g,c,x,rfl,hc,hg,hgb,_,hxx,hcell,_,hx⟩:=h.word (k/64) hj
 have h0:=h.own.at 3
 have h1:=h.own.at 4
 simp at h0 h1
 have hb:bitOf ws k=x.testBit (k%64):=by unfold bitOf;rw[hxx]
 rw[hb]
 have HB:=hid (and_pow x (k%64))
 have HM:=hid (fun w=>mask_at k w (by omega))
 have HA:=hid (bits_and_u64_nat x (2 ^ (k%64)) (by omega) (pow_small k))
 have hm2:(ws.length:Int)≤1000:=by have:=h.many;omega
 have hjI:(k:Int)/64<ws.length:=by omega
 clear h hb hxx hj
 generalize ws.length=m at *
 go_enter Tryz.func105,Tryz.ntmps105
 go_wp2
 go_quiet ((go_at_call 104;exact Calls.quiet_of_same (HM.out _)))
 go_wp2
 go_ret
 exact ⟨ret_b (by
   have:=HA.out
   rw[Int.natCast_pow] at this
   rw[← HB.out,← this]
   rfl),nq,rfl⟩
theorem or_bit (x r i:Nat):(x ||| 2 ^ r).testBit i=if i=r then true else x.testBit i:=by
 rw[Nat.testBit_or,Nat.testBit_two_pow]
 by_cases e:i=r
 ·simp[e]
 ·simp[e,Ne.symm e]
theorem or_small (x n:Nat) (hx:x<18446744073709551616):x ||| 2 ^ (n%64)<18446744073709551616:=by
 have e:(2:Nat) ^ 64=18446744073709551616:=by decide
 have:=Nat.or_lt_two_pow (n:=64) (x:=x) (y:=2 ^ (n%64)) (by omega) (Nat.pow_lt_pow_right (by decide) (by omega))
 omega
theorem clear_bit (x r i:Nat) (hx:x<18446744073709551616) (hr:r<64):(x &&& (18446744073709551615-2 ^ r)).testBit i=if i=r then false else x.testBit i:=by
 have hp:2 ^ r<2 ^ 64:=Nat.pow_lt_pow_right (by decide) hr
 have e1:18446744073709551615-2 ^ r=2 ^ 64-(2 ^ r+1):=by
   have:(2:Nat) ^ 64=18446744073709551616:=by decide
   omega
 rw[e1,Nat.testBit_and,Nat.testBit_two_pow_sub_succ hp,Nat.testBit_two_pow]
 by_cases e:i=r
 ·simp[e]
 ·by_cases h64:i<64
  ·simp[e,Ne.symm e,h64]
  ·have:x.testBit i=false:=Nat.testBit_lt_two_pow (Nat.lt_of_lt_of_le hx (by
     have:(2:Nat) ^ 64≤2 ^ i:=Nat.pow_le_pow_right (by decide) (by omega)
     simpa using this))
   simp[e,this]
theorem bit_set (ws:List Nat) (n y:Nat) (bt:Bool) (hn:n/64<ws.length) (hy:∀ i,y.testBit i=if i=n%64 then bt else (ws.getD (n/64) 0).testBit i) (i:Nat) :
   bitOf (ws.set (n/64) y) i=if i=n then bt else bitOf ws i:=by
 unfold bitOf
 rw[List.getD_eq_getElem?_getD,List.getElem?_set]
 by_cases e:n/64=i/64
 ·rw[if_pos e,if_pos hn]
  show y.testBit (i%64)=_
  rw[hy,e]
  by_cases h:i=n
  ·subst h;simp
  ·rw[if_neg h,if_neg (by omega)]
 ·rw[if_neg e,if_neg (by intro h;rw[h] at e;exact e rfl),List.getD_eq_getElem?_getD]
theorem snoc_bits (ws:List Nat) (l:List Bool) (bt:Bool) (y:Nat) (hn:l.length/64<ws.length) (hy:∀ i,y.testBit i=if i=l.length%64 then bt else (ws.getD (l.length/64) 0).testBit i)
   (hb:∀ i,i<l.length→bitOf ws i=l.getD i false) (i:Nat) (hi:i<(l++[bt]).length):bitOf (ws.set (l.length/64) y) i=(l++[bt]).getD i false:=by
 rw[bit_set ws l.length y bt hn hy,List.getD_eq_getElem?_getD]
 by_cases e:i=l.length
 ·subst e;simp
 ·have h:i<l.length:=by simp at hi;omega
  rw[if_neg e,hb i h,List.getElem?_append_left h,List.getD_eq_getElem?_getD]
theorem RawN.pushed {w:World} {b g m c N:Nat} {F:Nat→Prop} {l:List Bool} {ws:List Nat} (h:RawN Rs w b F l ws (.slice (some ⟨g,0,none⟩) m c) N) (hN:N=l.length/64+1) (bt:Bool) (y:Nat) (hy0:y<18446744073709551616)
   (hy:∀ i,y.testBit i=if i=l.length%64 then bt else (ws.getD (l.length/64) 0).testBit i) :
   StP Rs ((w.setCell ⟨g,l.length/64,none⟩ (.int .u64 y)).setCell ⟨b,4,none⟩ (.int .i64 ((l.length+1:Nat):Int))) b F (l++[bt]):=by
 have hgb:g≠b:=fun e=>h.apart (by rw[e];rfl)
 have hj:l.length/64<ws.length:=by rw[h.many];omega
 refine ⟨ws.set (l.length/64) y,.slice (some ⟨g,0,none⟩) m c,?_,?_,h.foot,h.apart,?_,snoc_bits ws l bt y hj hy h.bit,?_⟩
 ·have:=(h.own.past (p:=⟨g,l.length/64,none⟩) (Ne.symm hgb) (.int .u64 y)).put 4 (.int .i64 ((l.length+1:Nat):Int))
  simpa using this
 ·refine (GRow.put (K:=wordK) (a:=y) rfl h.row hj rfl).stay (fun k hk => ?_)
  rw[ownBlock_is hk]
  exact Below.heap_setCell _ _ _ _ hgb
 ·rw[List.length_set,h.many,hN,List.length_append]
  show _=(l.length+1+63)/64
  omega
 ·intro x hx
  rcases List.mem_or_eq_of_mem_set hx with hx|rfl
  ·exact h.small _ hx
  ·exact hy0
theorem push_or_in (b:Nat) (F:Nat→Prop) (l:List Bool) (ws:List Nat) (v:Value) (N:Nat) (w:World) (h:RawN Rs w b F l ws v N) (hl:l.length≤5000) (hN:N=(l.length+63)/64) (hf:l.length≠64*N) :
   Calls Tryz.prog 83 #[.pointer (some ⟨b,3,none⟩),.bool true] w fun e w' =>
     e=.returned (.tuple #[]) ∧ ∃ F',StP Rs w' b F' (l++[true])∧Touch F w w' ∧ ∀ k,k<w.heap.size→F' k→F k:=by
 obtain ⟨A,c,hv,hc⟩:=h.form
 have h0:=h.own.at 3
 have h1:=h.own.at 4
 have f0:=h.own.free 3
 rw[hv] at h0
 simp at h0 h1
 have HM:=hid (fun w=>mask_at l.length w (by omega))
 have hm2:(N:Int)≤1000:=by omega
 have hfI:((l.length:Int)==64*N)=false:=by rw[beq_eq_false_iff_ne];omega
 have hnI:(l.length:Int)≤5000:=by omega
 have HFB:=hid h.self
 have HH:=hid h
 have HV:=hid hv
 clear h hv
 generalize hnn:l.length=n at *
 have HN:=hid hnn
 clear hnn
 have HNN:=hid hN
 have HCN:=hid hf
 clear hN hf
 go_enter Tryz.func83,Tryz.ntmps83
 go_wp2
 go_quiet (fail)
 have HW:=hid (show Touch F w (w.drewN nq) from (Touch.refl F w).drewN nq)
 have HR:=hid (show RawN Rs (w.drewN nq) b F l ws v N from HH.out.drewN nq)
 have HF:=hid (show ∀ k,k<w.heap.size→F k→F k from fun _ _ h=>h)
 have HN1:=hid (show N=n/64+1 by have:=HNN.out;have:=HCN.out;omega)
 clear h0 h1 HH HV
 generalize w.drewN nq=w2 at *
 have hn1:N=n/64+1:=HN1.out
 obtain ⟨g,c2,x,hv2,hc2,hg,hgb,hFg,hxx,hcell,hfz,hx⟩:=HR.out.word (n/64) (by rw[HR.out.many];omega)
 have hx0:(0:Int)≤x:=by omega
 have HX:=hid hxx
 rw[HR.out.many] at hv2 hc2
 have k0:=HR.out.own.at 3
 have k1:=HR.out.own.at 4
 have z1:=HR.out.own.free 4
 have KV:=hid hv2
 rw[HN.out,hv2] at k0 k1
 simp at k0 k1
 have HO:=hid (bits_or_u64_nat x (2 ^ (n%64)) (by omega) (pow_small n))
 clear hxx hv2
 have hq:IntKind.i64.wrap ((n:Int)/64)=((n/64:Nat):Int):=by
   rw[IntKind.wrap_i64]
   omega
 have hjm:((n/64:Nat):Int)<(N:Nat):=by omega
 have hj0:(0:Int)≤((n/64:Nat):Int):=by omega
 clear hn1
 generalize hjj:n/64=j at *
 have HJJ:=hid hjj
 clear hjj
 go_wp2
 refine wp_region_still_tail 18 (by kernel_rfl) (by kernel_rfl) ?_
 simp only [List.take_succ_cons,List.take_zero,List.drop_succ_cons,List.drop_zero]
 iterate 15 still_step
 still_call (HM.out w2.drew)
 repeat still_step
 refine wpStill_nil ?_
 have c1:(w2.drew).cell? ⟨b,4,none⟩=some (.int .i64 n):=k1
 have c3:(w2.drew).frozen? ⟨b,4,none⟩=false:=z1
 have c4:(w2.drew).cell? ⟨g,j,none⟩=some (.int .u64 x):=hcell
 have c5:(w2.drew).frozen? ⟨g,j,none⟩=false:=hfz
 have hgb':b≠g:=Ne.symm hgb
 change wpList _ _ _ _ _ w2.drew
 have HW2:=hid (show Touch F w w2.drew from HW.out.drewN 1)
 have HR2:=hid (show RawN Rs w2.drew b F l ws v N from HR.out.drewN 1)
 clear k0 k1 z1 hcell hfz HW HR
 generalize w2.drew=w3 at *
 go_wp2
 go_end0
 have HR3:=HR2.out
 rw[KV.out] at HR3
 have hy:bits BinOp.or IntKind.u64 ↑x (2 ^ (n%64))=((x ||| 2 ^ (n%64):Nat):Int):=by
   have:=HO.out
   rwa [Int.natCast_pow] at this
 have hn1:((n:Int)+1)=((l.length+1:Nat):Int):=by rw[HN.out];omega
 have hjl:j=l.length/64:=by rw[HN.out,HJJ.out]
 have hp:=RawN.pushed HR3 (by rw[← hjl];exact HN1.out) true (x ||| 2 ^ (n%64)) (or_small x n (by omega)) (by
   intro i
   rw[HN.out,HJJ.out,HX.out]
   exact or_bit x (n%64) i)
 refine ⟨rfl,F,?_,?_,HF.out⟩
 ·rw[hy,hn1,hjl]
  exact hp
 ·exact (HW2.out.setCell (p:=⟨g,j,none⟩) (by
    by_cases hk:g<w.heap.size
    ·exact .inl (HF.out g hk hFg)
    ·exact .inr (Nat.le_of_not_lt hk)) _).setCell (p:=⟨b,4,none⟩) (.inl HFB.out) _
theorem push_clear_in (b:Nat) (F:Nat→Prop) (l:List Bool) (ws:List Nat) (v:Value) (N:Nat) (w:World) (h:RawN Rs w b F l ws v N) (hl:l.length≤5000) (hN:N=(l.length+63)/64) (hf:l.length≠64*N) :
   Calls Tryz.prog 83 #[.pointer (some ⟨b,3,none⟩),.bool false] w fun e w' =>
     e=.returned (.tuple #[]) ∧ ∃ F',StP Rs w' b F' (l++[false])∧Touch F w w' ∧ ∀ k,k<w.heap.size→F' k→F k:=by
 obtain ⟨A,c,hv,hc⟩:=h.form
 have h0:=h.own.at 3
 have h1:=h.own.at 4
 have f0:=h.own.free 3
 rw[hv] at h0
 simp at h0 h1
 have HM:=hid (fun w=>mask_at l.length w (by omega))
 have hm2:(N:Int)≤1000:=by omega
 have hfI:((l.length:Int)==64*N)=false:=by rw[beq_eq_false_iff_ne];omega
 have hnI:(l.length:Int)≤5000:=by omega
 have HFB:=hid h.self
 have HH:=hid h
 have HV:=hid hv
 clear h hv
 generalize hnn:l.length=n at *
 have HN:=hid hnn
 clear hnn
 have HNN:=hid hN
 have HCN:=hid hf
 clear hN hf
 go_enter Tryz.func83,Tryz.ntmps83
 go_wp2
 go_quiet (fail)
 have HW:=hid (show Touch F w (w.drewN nq) from (Touch.refl F w).drewN nq)
 have HR:=hid (show RawN Rs (w.drewN nq) b F l ws v N from HH.out.drewN nq)
 have HF:=hid (show ∀ k,k<w.heap.size→F k→F k from fun _ _ h=>h)
 have HN1:=hid (show N=n/64+1 by have:=HNN.out;have:=HCN.out;omega)
 clear h0 h1 HH HV
 generalize w.drewN nq=w2 at *
 have hn1:N=n/64+1:=HN1.out
 obtain ⟨g,c2,x,hv2,hc2,hg,hgb,hFg,hxx,hcell,hfz,hx⟩:=HR.out.word (n/64) (by rw[HR.out.many];omega)
 have hx0:(0:Int)≤x:=by omega
 have HX:=hid hxx
 rw[HR.out.many] at hv2 hc2
 have k0:=HR.out.own.at 3
 have k1:=HR.out.own.at 4
 have z1:=HR.out.own.free 4
 have KV:=hid hv2
 rw[HN.out,hv2] at k0 k1
 simp at k0 k1
 have HO:=hid (u64_andNot_nat x (2 ^ (n%64)) (by omega) (pow_small n))
 clear hxx hv2
 have hq:IntKind.i64.wrap ((n:Int)/64)=((n/64:Nat):Int):=by
   rw[IntKind.wrap_i64]
   omega
 have hjm:((n/64:Nat):Int)<(N:Nat):=by omega
 have hj0:(0:Int)≤((n/64:Nat):Int):=by omega
 clear hn1
 generalize hjj:n/64=j at *
 have HJJ:=hid hjj
 clear hjj
 go_wp2
 refine wp_region_still_tail 18 (by kernel_rfl) (by kernel_rfl) ?_
 simp only [List.take_succ_cons,List.take_zero,List.drop_succ_cons,List.drop_zero]
 iterate 15 still_step
 still_call (HM.out w2.drew)
 repeat still_step
 refine wpStill_nil ?_
 have c1:(w2.drew).cell? ⟨b,4,none⟩=some (.int .i64 n):=k1
 have c3:(w2.drew).frozen? ⟨b,4,none⟩=false:=z1
 have c4:(w2.drew).cell? ⟨g,j,none⟩=some (.int .u64 x):=hcell
 have c5:(w2.drew).frozen? ⟨g,j,none⟩=false:=hfz
 have hgb':b≠g:=Ne.symm hgb
 change wpList _ _ _ _ _ w2.drew
 have HW2:=hid (show Touch F w w2.drew from HW.out.drewN 1)
 have HR2:=hid (show RawN Rs w2.drew b F l ws v N from HR.out.drewN 1)
 clear k0 k1 z1 hcell hfz HW HR
 generalize w2.drew=w3 at *
 go_wp2
 go_end0
 have HR3:=HR2.out
 rw[KV.out] at HR3
 have hy:bits BinOp.andNot IntKind.u64 ↑x (2 ^ (n%64))=((x &&& (18446744073709551615-2 ^ (n%64)):Nat):Int):=by
   have:=HO.out
   rwa [Int.natCast_pow] at this
 have hn1:((n:Int)+1)=((l.length+1:Nat):Int):=by rw[HN.out];omega
 have hjl:j=l.length/64:=by rw[HN.out,HJJ.out]
 have hp:=RawN.pushed HR3 (by rw[← hjl];exact HN1.out) false (x &&& (18446744073709551615-2 ^ (n%64))) (Nat.lt_of_le_of_lt Nat.and_le_left (by omega)) (by
   intro i
   rw[HN.out,HJJ.out,HX.out]
   exact clear_bit x (n%64) i (by omega) (by omega))
 refine ⟨rfl,F,?_,?_,HF.out⟩
 ·rw[hy,hn1,hjl]
  exact hp
 ·exact (HW2.out.setCell (p:=⟨g,j,none⟩) (by
    by_cases hk:g<w.heap.size
    ·exact .inl (HF.out g hk hFg)
    ·exact .inr (Nat.le_of_not_lt hk)) _).setCell (p:=⟨b,4,none⟩) (.inl HFB.out) _
theorem push_or_new (b:Nat) (F:Nat→Prop) (l:List Bool) (ws:List Nat) (v:Value) (N:Nat) (w:World) (h:RawN Rs w b F l ws v N) (hl:l.length≤5000) (hN:N=(l.length+63)/64) (hf:l.length=64*N) :
   Calls Tryz.prog 83 #[.pointer (some ⟨b,3,none⟩),.bool true] w fun e w' =>
     e=.returned (.tuple #[]) ∧ ∃ F',StP Rs w' b F' (l++[true])∧Touch F w w' ∧ ∀ k,k<w.heap.size→F' k→F k:=by
 obtain ⟨A,c,hv,hc⟩:=h.form
 have h0:=h.own.at 3
 have h1:=h.own.at 4
 have f0:=h.own.free 3
 rw[hv] at h0
 simp at h0 h1
 have HM:=hid (fun w=>mask_at l.length w (by omega))
 have hm2:(N:Int)≤1000:=by omega
 have hfI:((l.length:Int)==64*N)=true:=by rw[beq_iff_eq];omega
 have hnI:(l.length:Int)≤5000:=by omega
 have HFB:=hid h.self
 have HH:=hid h
 have HV:=hid hv
 clear h hv
 generalize hnn:l.length=n at *
 have HN:=hid hnn
 clear hnn
 have HNN:=hid hN
 have HCN:=hid hf
 clear hN hf
 go_enter Tryz.func83,Tryz.ntmps83
 go_wp2
 go_quiet (fail)
 have k0:(w.drewN nq).cell? ⟨b,3,none⟩=some (.slice A N c):=h0
 have z0:(w.drewN nq).frozen? ⟨b,3,none⟩=false:=f0
 have HW0:=hid (show Touch F w (w.drewN nq) from (Touch.refl F w).drewN nq)
 have HR0:=hid (show RawN Rs (w.drewN nq) b F l ws v N from HH.out.drewN nq)
 have HSZ:=hid (show (w.drewN nq).heap.size=w.heap.size from rfl)
 clear h0 h1 f0 HH
 generalize w.drewN nq=wa at *
 have hd:=below1f wa (.cells #[.int .u64 0] 156)
 have ROW:=hid ((HR0.out.row).stay (w':=wa.alloc (.cells #[.int .u64 0] 156)) (fun g hg=>hd.block g (HR0.out.blocks hg).2.2))
 have OWN:=hid (HR0.out.own.stay hd HR0.out.own.inside)
 have NEW:=hid ((GRow.made (K:=wordK) (base:=0) (l:=[0]) wa #[.int .u64 0] rfl (by decide) (Nat.zero_le _)).rd)
 go_wp2_with (first
   | (at_builtin;go_must (refine row_append (K:=wordK) _ rfl (.tmp 19) (.tmp 20) rfl 0 _ ws HV.out.symm ROW.out _ 1 1 [0] rfl NEW.out (by have:=HR0.out.many;omega) (Nat.zero_le _) ?_;intro v1 wb row1 grown1 at1;have OWB:=own_grown OWN.out grown1 HR0.out.apart;have f0b:=OWB.free 3;have c0b:=OWB.at 3;simp at c0b;clear OWB;obtain ⟨A1,m1,c1,rfl⟩:=row_slice row1))
   | fail)
 have GR:=HR0.out.grown row1 grown1 at1
 have ex:∃ F1:Nat→Prop,RawN Rs (wb.setCell ⟨b,3,none⟩ (Value.slice A1 m1 c1)) b F1 l (ws++[0]) (Value.slice A1 m1 c1) (N+1) ∧ ∀ k,k<w.heap.size→F1 k→F k:=⟨_,GR.1,fun k hk=>GR.2.2 k (by rw[HSZ.out];exact hk)⟩
 obtain ⟨F1,hr1,hf1⟩:=ex
 have HR:=hid hr1
 have HF:=hid hf1
 have HW:=hid (HW0.out.trans GR.2.1 (fun _ _ h=>h))
 have HN1:=hid (show N+1=n/64+1 by have:=HNN.out;have:=HCN.out;omega)
 clear hr1 hf1 GR hd ROW OWN NEW row1 grown1 at1 HW0 HR0 HSZ f0b c0b k0 z0 HV hm2
 generalize hv1:Value.slice A1 m1 c1=v1 at *
 generalize hws1:ws++[0]=ws1 at *
 generalize wb.setCell ⟨b,3,none⟩ v1=w2 at *
 have hm2:((N+1:Nat):Int)≤1001:=by have:=HNN.out;omega
 have hn1:N+1=n/64+1:=HN1.out
 generalize N+1=N1 at *
 clear hv1 hws1
 obtain ⟨g,c2,x,hv2,hc2,hg,hgb,hFg,hxx,hcell,hfz,hx⟩:=HR.out.word (n/64) (by rw[HR.out.many];omega)
 have hx0:(0:Int)≤x:=by omega
 have HX:=hid hxx
 rw[HR.out.many] at hv2 hc2
 have k0:=HR.out.own.at 3
 have k1:=HR.out.own.at 4
 have z1:=HR.out.own.free 4
 have KV:=hid hv2
 rw[HN.out,hv2] at k0 k1
 simp at k0 k1
 have HO:=hid (bits_or_u64_nat x (2 ^ (n%64)) (by omega) (pow_small n))
 clear hxx hv2
 have hq:IntKind.i64.wrap ((n:Int)/64)=((n/64:Nat):Int):=by
   rw[IntKind.wrap_i64]
   omega
 have hjm:((n/64:Nat):Int)<(N1:Nat):=by omega
 have hj0:(0:Int)≤((n/64:Nat):Int):=by omega
 clear hn1
 generalize hjj:n/64=j at *
 have HJJ:=hid hjj
 clear hjj
 go_wp2
 refine wp_region_still_tail 18 (by kernel_rfl) (by kernel_rfl) ?_
 simp only [List.take_succ_cons,List.take_zero,List.drop_succ_cons,List.drop_zero]
 iterate 15 still_step
 still_call (HM.out w2.drew)
 repeat still_step
 refine wpStill_nil ?_
 have c1:(w2.drew).cell? ⟨b,4,none⟩=some (.int .i64 n):=k1
 have c3:(w2.drew).frozen? ⟨b,4,none⟩=false:=z1
 have c4:(w2.drew).cell? ⟨g,j,none⟩=some (.int .u64 x):=hcell
 have c5:(w2.drew).frozen? ⟨g,j,none⟩=false:=hfz
 have hgb':b≠g:=Ne.symm hgb
 change wpList _ _ _ _ _ w2.drew
 have HW2:=hid (show Touch F w w2.drew from HW.out.drewN 1)
 have HR2:=hid (show RawN Rs w2.drew b F1 l ws1 v1 N1 from HR.out.drewN 1)
 clear k0 k1 z1 hcell hfz HW HR
 generalize w2.drew=w3 at *
 go_wp2
 go_end0
 have HR3:=HR2.out
 rw[KV.out] at HR3
 have hy:bits BinOp.or IntKind.u64 ↑x (2 ^ (n%64))=((x ||| 2 ^ (n%64):Nat):Int):=by
   have:=HO.out
   rwa [Int.natCast_pow] at this
 have hn1:((n:Int)+1)=((l.length+1:Nat):Int):=by rw[HN.out];omega
 have hjl:j=l.length/64:=by rw[HN.out,HJJ.out]
 have hp:=RawN.pushed HR3 (by rw[← hjl];exact HN1.out) true (x ||| 2 ^ (n%64)) (or_small x n (by omega)) (by
   intro i
   rw[HN.out,HJJ.out,HX.out]
   exact or_bit x (n%64) i)
 refine ⟨rfl,F1,?_,?_,HF.out⟩
 ·rw[hy,hn1,hjl]
  exact hp
 ·exact (HW2.out.setCell (p:=⟨g,j,none⟩) (by
    by_cases hk:g<w.heap.size
    ·exact .inl (HF.out g hk hFg)
    ·exact .inr (Nat.le_of_not_lt hk)) _).setCell (p:=⟨b,4,none⟩) (.inl HFB.out) _
theorem push_clear_new (b:Nat) (F:Nat→Prop) (l:List Bool) (ws:List Nat) (v:Value) (N:Nat) (w:World) (h:RawN Rs w b F l ws v N) (hl:l.length≤5000) (hN:N=(l.length+63)/64) (hf:l.length=64*N) :
   Calls Tryz.prog 83 #[.pointer (some ⟨b,3,none⟩),.bool false] w fun e w' =>
     e=.returned (.tuple #[]) ∧ ∃ F',StP Rs w' b F' (l++[false])∧Touch F w w' ∧ ∀ k,k<w.heap.size→F' k→F k:=by
 obtain ⟨A,c,hv,hc⟩:=h.form
 have h0:=h.own.at 3
 have h1:=h.own.at 4
 have f0:=h.own.free 3
 rw[hv] at h0
 simp at h0 h1
 have HM:=hid (fun w=>mask_at l.length w (by omega))
 have hm2:(N:Int)≤1000:=by omega
 have hfI:((l.length:Int)==64*N)=true:=by rw[beq_iff_eq];omega
 have hnI:(l.length:Int)≤5000:=by omega
 have HFB:=hid h.self
 have HH:=hid h
 have HV:=hid hv
 clear h hv
 generalize hnn:l.length=n at *
 have HN:=hid hnn
 clear hnn
 have HNN:=hid hN
 have HCN:=hid hf
 clear hN hf
 go_enter Tryz.func83,Tryz.ntmps83
 go_wp2
 go_quiet (fail)
 have k0:(w.drewN nq).cell? ⟨b,3,none⟩=some (.slice A N c):=h0
 have z0:(w.drewN nq).frozen? ⟨b,3,none⟩=false:=f0
 have HW0:=hid (show Touch F w (w.drewN nq) from (Touch.refl F w).drewN nq)
 have HR0:=hid (show RawN Rs (w.drewN nq) b F l ws v N from HH.out.drewN nq)
 have HSZ:=hid (show (w.drewN nq).heap.size=w.heap.size from rfl)
 clear h0 h1 f0 HH
 generalize w.drewN nq=wa at *
 have hd:=below1f wa (.cells #[.int .u64 0] 156)
 have ROW:=hid ((HR0.out.row).stay (w':=wa.alloc (.cells #[.int .u64 0] 156)) (fun g hg=>hd.block g (HR0.out.blocks hg).2.2))
 have OWN:=hid (HR0.out.own.stay hd HR0.out.own.inside)
 have NEW:=hid ((GRow.made (K:=wordK) (base:=0) (l:=[0]) wa #[.int .u64 0] rfl (by decide) (Nat.zero_le _)).rd)
 go_wp2_with (first
   | (at_builtin;go_must (refine row_append (K:=wordK) _ rfl (.tmp 19) (.tmp 20) rfl 0 _ ws HV.out.symm ROW.out _ 1 1 [0] rfl NEW.out (by have:=HR0.out.many;omega) (Nat.zero_le _) ?_;intro v1 wb row1 grown1 at1;have OWB:=own_grown OWN.out grown1 HR0.out.apart;have f0b:=OWB.free 3;have c0b:=OWB.at 3;simp at c0b;clear OWB;obtain ⟨A1,m1,c1,rfl⟩:=row_slice row1))
   | fail)
 have GR:=HR0.out.grown row1 grown1 at1
 have ex:∃ F1:Nat→Prop,RawN Rs (wb.setCell ⟨b,3,none⟩ (Value.slice A1 m1 c1)) b F1 l (ws++[0]) (Value.slice A1 m1 c1) (N+1) ∧ ∀ k,k<w.heap.size→F1 k→F k:=⟨_,GR.1,fun k hk=>GR.2.2 k (by rw[HSZ.out];exact hk)⟩
 obtain ⟨F1,hr1,hf1⟩:=ex
 have HR:=hid hr1
 have HF:=hid hf1
 have HW:=hid (HW0.out.trans GR.2.1 (fun _ _ h=>h))
 have HN1:=hid (show N+1=n/64+1 by have:=HNN.out;have:=HCN.out;omega)
 clear hr1 hf1 GR hd ROW OWN NEW row1 grown1 at1 HW0 HR0 HSZ f0b c0b k0 z0 HV hm2
 generalize hv1:Value.slice A1 m1 c1=v1 at *
 generalize hws1:ws++[0]=ws1 at *
 generalize wb.setCell ⟨b,3,none⟩ v1=w2 at *
 have hm2:((N+1:Nat):Int)≤1001:=by have:=HNN.out;omega
 have hn1:N+1=n/64+1:=HN1.out
 generalize N+1=N1 at *
 clear hv1 hws1
 obtain ⟨g,c2,x,hv2,hc2,hg,hgb,hFg,hxx,hcell,hfz,hx⟩:=HR.out.word (n/64) (by rw[HR.out.many];omega)
 have hx0:(0:Int)≤x:=by omega
 have HX:=hid hxx
 rw[HR.out.many] at hv2 hc2
 have k0:=HR.out.own.at 3
 have k1:=HR.out.own.at 4
 have z1:=HR.out.own.free 4
 have KV:=hid hv2
 rw[HN.out,hv2] at k0 k1
 simp at k0 k1
 have HO:=hid (u64_andNot_nat x (2 ^ (n%64)) (by omega) (pow_small n))
 clear hxx hv2
 have hq:IntKind.i64.wrap ((n:Int)/64)=((n/64:Nat):Int):=by
   rw[IntKind.wrap_i64]
   omega
 have hjm:((n/64:Nat):Int)<(N1:Nat):=by omega
 have hj0:(0:Int)≤((n/64:Nat):Int):=by omega
 clear hn1
 generalize hjj:n/64=j at *
 have HJJ:=hid hjj
 clear hjj
 go_wp2
 refine wp_region_still_tail 18 (by kernel_rfl) (by kernel_rfl) ?_
 simp only [List.take_succ_cons,List.take_zero,List.drop_succ_cons,List.drop_zero]
 iterate 15 still_step
 still_call (HM.out w2.drew)
 repeat still_step
 refine wpStill_nil ?_
 have c1:(w2.drew).cell? ⟨b,4,none⟩=some (.int .i64 n):=k1
 have c3:(w2.drew).frozen? ⟨b,4,none⟩=false:=z1
 have c4:(w2.drew).cell? ⟨g,j,none⟩=some (.int .u64 x):=hcell
 have c5:(w2.drew).frozen? ⟨g,j,none⟩=false:=hfz
 have hgb':b≠g:=Ne.symm hgb
 change wpList _ _ _ _ _ w2.drew
 have HW2:=hid (show Touch F w w2.drew from HW.out.drewN 1)
 have HR2:=hid (show RawN Rs w2.drew b F1 l ws1 v1 N1 from HR.out.drewN 1)
 clear k0 k1 z1 hcell hfz HW HR
 generalize w2.drew=w3 at *
 go_wp2
 go_end0
 have HR3:=HR2.out
 rw[KV.out] at HR3
 have hy:bits BinOp.andNot IntKind.u64 ↑x (2 ^ (n%64))=((x &&& (18446744073709551615-2 ^ (n%64)):Nat):Int):=by
   have:=HO.out
   rwa [Int.natCast_pow] at this
 have hn1:((n:Int)+1)=((l.length+1:Nat):Int):=by rw[HN.out];omega
 have hjl:j=l.length/64:=by rw[HN.out,HJJ.out]
 have hp:=RawN.pushed HR3 (by rw[← hjl];exact HN1.out) false (x &&& (18446744073709551615-2 ^ (n%64))) (Nat.lt_of_le_of_lt Nat.and_le_left (by omega)) (by
   intro i
   rw[HN.out,HJJ.out,HX.out]
   exact clear_bit x (n%64) i (by omega) (by omega))
 refine ⟨rfl,F1,?_,?_,HF.out⟩
 ·rw[hy,hn1,hjl]
  exact hp
 ·exact (HW2.out.setCell (p:=⟨g,j,none⟩) (by
    by_cases hk:g<w.heap.size
    ·exact .inl (HF.out g hk hFg)
    ·exact .inr (Nat.le_of_not_lt hk)) _).setCell (p:=⟨b,4,none⟩) (.inl HFB.out) _
theorem push_any (b:Nat) (F:Nat→Prop) (l:List Bool) (x:Bool) (w:World) (h:StP Rs w b F l) (hl:l.length≤5000) :
   Calls Tryz.prog 83 #[.pointer (some ⟨b,3,none⟩),.bool x] w fun e w' =>
     e=.returned (.tuple #[]) ∧ ∃ F',StP Rs w' b F' (l++[x])∧Touch F w w' ∧ ∀ k,k<w.heap.size→F' k→F k:=by
 obtain ⟨ws,v,h⟩:=h
 by_cases hf:l.length=64*((l.length+63)/64)
 ·cases x
  ·exact push_clear_new b F l ws v _ w h hl rfl hf
  ·exact push_or_new b F l ws v _ w h hl rfl hf
 ·cases x
  ·exact push_clear_in b F l ws v _ w h hl rfl hf
  ·exact push_or_in b F l ws v _ w h hl rfl hf
theorem len_any (b:Nat) (F:Nat→Prop) (l:List Bool) (w:World) (h:StP Rs w b F l) :
   Calls Tryz.prog 103 #[.pointer (some ⟨b,3,none⟩)] w fun e w'=>e=.returned (.int .i64 l.length)∧w'=w:=by
 obtain ⟨ws,v,h⟩:=h
 have h1:=h.own.at 4
 simp at h1
 clear h
 go_enter Tryz.func103,Tryz.ntmps103
 go_wp2
 go_ret
 exact ⟨rfl,rfl⟩
theorem top_none (b:Nat) (F:Nat→Prop) (w:World) (h:StP Rs w b F []) :
   Calls Tryz.prog 84 #[.pointer (some ⟨b,3,none⟩)] w fun e w'=>e=.returned (.tuple #[.bool false,.bool false]) ∧ ∃ q,w'=w.drewN q:=by
 obtain ⟨ws,v,h⟩:=h
 have h1:=h.own.at 4
 simp at h1
 clear h
 go_enter Tryz.func84,Tryz.ntmps84
 go_wp2
 go_ret2
 exact ⟨rfl,0,rfl⟩
theorem top_some (b:Nat) (F:Nat→Prop) (l:List Bool) (ws:List Nat) (v:Value) (N n:Nat) (w:World) (h:RawN Rs w b F l ws v N) (hN:n<64*N) (hl:l.length=n+1) (h5:l.length≤5000) (hNN:N≤1000) :
   Calls Tryz.prog 84 #[.pointer (some ⟨b,3,none⟩)] w fun e w'=>e=.returned (.tuple #[.bool (bitOf ws n),.bool true]) ∧ ∃ q,w'=w.drewN q:=by
 have h1:=h.own.at 4
 rw[hl] at h1
 simp at h1
 have hnI:(n:Int)≤5000:=by omega
 have gz:(((n:Int)+1)==0)=false:=by rw[beq_eq_false_iff_ne];omega
 have HA:=hid (at_at b F l ws v N n w h hN hNN)
 clear h hl
 go_enter Tryz.func84,Tryz.ntmps84
 go_wp2_with (go_at_call 105;refine HA.out.mono ?_;rintro e w' ⟨rfl,q,rfl⟩)
 go_ret2
 exact ⟨rfl,q,rfl⟩
theorem last_bit {w:World} {b N n:Nat} {F:Nat→Prop} {l:List Bool} {ws:List Nat} {v:Value} (h:RawN Rs w b F l ws v N) (hl:l.length=n+1):l.getLast?.getD false=bitOf ws n:=by
 rw[h.bit n (by omega),List.getLast?_eq_getElem?,hl,List.getD_eq_getElem?_getD]
 rfl
theorem top_any (b:Nat) (F:Nat→Prop) (l:List Bool) (w:World) (h:StP Rs w b F l) (hl:l.length≤5000) :
   Calls Tryz.prog 84 #[.pointer (some ⟨b,3,none⟩)] w fun e w' =>
     e=.returned (.tuple #[.bool (l.getLast?.getD false),.bool (decide (0<l.length))]) ∧ ∃ q,w'=w.drewN q:=by
 rcases Nat.eq_zero_or_pos l.length with h0|h0
 ·obtain rfl:l=[]:=List.eq_nil_of_length_eq_zero h0
  exact top_none b F w h
 ·obtain ⟨n,hn⟩:∃ n,l.length=n+1:=⟨l.length-1,by omega⟩
  obtain ⟨ws,v,h⟩:=h
  rw[last_bit h hn,decide_eq_true h0]
  exact top_some b F l ws v _ n w h (by omega) hn hl (by omega)
theorem back_bits {ws:List Nat} {l:List Bool} (hb:∀ i,i<l.length→bitOf ws i=l.getD i false) (i:Nat) (hi:i<l.dropLast.length):bitOf ws i=l.dropLast.getD i false:=by
 rw[List.length_dropLast] at hi
 rw[hb i (by omega),List.getD_eq_getElem?_getD,List.getD_eq_getElem?_getD,List.getElem?_dropLast,if_pos (by omega)]
theorem take_bits (ws:List Nat) (n i:Nat) (hn:n%64=0) (hi:i<n):bitOf (ws.take (n/64)) i=bitOf ws i:=by
 unfold bitOf
 rw[List.getD_eq_getElem?_getD,List.getD_eq_getElem?_getD,List.getElem?_take_of_lt (by omega)]
theorem RawN.popped {w:World} {b N n:Nat} {F:Nat→Prop} {l:List Bool} {ws:List Nat} {v:Value} (h:RawN Rs w b F l ws v N) (hl:l.length=n+1):RawN Rs (w.setCell ⟨b,4,none⟩ (.int .i64 n)) b F l.dropLast ws v N :=
 ⟨by have:=h.own.put 4 (.int .i64 n);simpa [hl] using this,h.row.stay (fun g hg=>Below.heap_setCell _ _ _ _ (h.blocks hg).2.1),h.foot,h.apart,h.many,back_bits h.bit,h.small⟩
theorem RawN.cut {w:World} {b N k m c:Nat} {A:Option Addr} {F:Nat→Prop} {l:List Bool} {ws:List Nat} (h:RawN Rs w b F l ws (.slice A m c) N) (hk:k≤N) (hl:l.length=64*k):RawN Rs (w.setCell ⟨b,3,none⟩ (.slice A k c)) b F l (ws.take k) (.slice A k c) k:=by
 have ho:(Value.slice A k c).ownBlock=(Value.slice A m c).ownBlock:=by
   cases A with
   | none=>rfl
   | some a=>rfl
 refine ⟨by have:=h.own.put 3 (.slice A k c);simpa using this,(h.row.cut (by rw[h.many];exact hk)).stay (fun g hg=>Below.heap_setCell _ _ _ _ (h.blocks (ho▸hg)).2.1),fun j=>by rw[ho];exact h.foot j,by rw[ho];exact h.apart,?_,?_,fun x hx=>h.small x (List.mem_of_mem_take hx)⟩
 ·rw[List.length_take,h.many];omega
 ·intro i hi
  have:=take_bits ws (64*k) i (by omega) (by omega)
  rw[show 64*k/64=k by omega] at this
  rw[this]
  exact h.bit i hi
theorem pop_none (b:Nat) (F:Nat→Prop) (w:World) (h:StP Rs w b F []) :
   Calls Tryz.prog 106 #[.pointer (some ⟨b,3,none⟩)] w fun e w'=>e=.returned (.tuple #[.bool false,.bool false]) ∧ ∃ q,w'=w.drewN q:=by
 have HT:=hid (top_none b F w h)
 clear h
 go_enter Tryz.func106,Tryz.ntmps106
 go_wp2_with (go_at_call 84;refine HT.out.mono ?_;rintro e w' ⟨rfl,q,rfl⟩)
 go_ret2
 exact ⟨rfl,q,rfl⟩
theorem pop_some (b:Nat) (F:Nat→Prop) (l:List Bool) (ws:List Nat) (v:Value) (n:Nat) (w:World) (h:RawN Rs w b F l ws v (n/64+1)) (hl:l.length=n+1) (h5:l.length≤5000) :
   Calls Tryz.prog 106 #[.pointer (some ⟨b,3,none⟩)] w fun e w'=>e=.returned (.tuple #[.bool (bitOf ws n),.bool true]) ∧ ∃ F',StP Rs w' b F' l.dropLast∧Touch F w w' ∧ ∀ k,k<w.heap.size→F' k→F k:=by
 have hdl:l.dropLast.length=n:=by rw[List.length_dropLast];omega
 have HT:=hid (top_some b F l ws v _ n w h (by omega) hl h5 (by omega))
 obtain ⟨g,c,x,hv,hc,_,_,_,hxx,_,_,_⟩:=h.word (n/64) (by rw[h.many];omega)
 rw[h.many] at hv hc
 clear hxx
 have h1:=h.own.at 4
 have f1:=h.own.free 4
 have h0:=h.own.at 3
 have f0:=h.own.free 3
 rw[hv] at h0
 rw[hl] at h1
 simp at h0 h1
 have hnI:(n:Int)≤5000:=by omega
 have hn0:(0:Int)≤(n:Int):=by omega
 have hwr:((n:Int)+1)-1=n:=by omega
 have H:=hid h
 have HL:=hid hl
 have HV:=hid hv
 have HD:=hid hdl
 clear h hl hv hdl h5
 by_cases hm:n%64=0
 ·have hmI:((n:Int)%64==0)=true:=by rw[beq_iff_eq];omega
  obtain ⟨j,hj⟩:∃ j,n=64*j:=⟨n/64,by omega⟩
  have hq:IntKind.i64.wrap ((n:Int)/64)=(j:Int):=by
    rw[IntKind.wrap_i64]
    omega
  have hjc:(j:Int)≤c:=by omega
  have hj0:(0:Int)≤j:=by omega
  have hjN:n/64=j:=by omega
  have HJ:=hid hj
  have HJN:=hid hjN
  have HMM:=hid hm
  rw[hjN] at h0 hc
  clear hj hjN hm
  go_enter Tryz.func106,Tryz.ntmps106
  go_wp2_with (go_at_call 84;refine HT.out.mono ?_;rintro e w' ⟨rfl,q,rfl⟩)
  have HP:=hid (show RawN Rs ((w.drewN q).setCell ⟨b,4,none⟩ (.int .i64 n)) b F l.dropLast ws v (n/64+1) from (H.out.drewN q).popped HL.out)
  have HU:=hid (show Touch F w ((w.drewN q).setCell ⟨b,4,none⟩ (.int .i64 n)) from ((Touch.refl F w).drewN q).setCell (p:=⟨b,4,none⟩) (.inl H.out.self) _)
  have k0:=HP.out.own.at 3
  have k1:=HP.out.own.at 4
  have z0:=HP.out.own.free 3
  rw[HV.out,HJN.out] at k0
  rw[HD.out] at k1
  simp at k0 k1
  clear h0 h1 f0 f1
  generalize (w.drewN q).setCell ⟨b,4,none⟩ (.int .i64 n)=w2 at *
  refine wp_region_still_tail 13 (by kernel_rfl) (by kernel_rfl) ?_
  simp only [List.take_succ_cons,List.take_zero,List.drop_succ_cons,List.drop_zero]
  repeat still_step
  refine wpStill_nil ?_
  have y0:(w2.drew).frozen? ⟨b,3,none⟩=false:=z0
  have y1:(w2.drew).cell? ⟨b,3,none⟩=some (.slice (some ⟨g,0,none⟩) (j+1) c):=k0
  have HP2:=hid (show RawN Rs w2.drew b F l.dropLast ws v (n/64+1) from HP.out.drewN 1)
  have HU2:=hid (show Touch F w w2.drew from HU.out.drewN 1)
  change wpList _ _ _ _ _ w2.drew
  clear k0 k1 z0 HP HU
  generalize w2.drew=w3 at *
  go_wp2
  go_ret2
  have hp:=HP2.out
  rw[HV.out] at hp
  have hc:=hp.cut (k:=j) (by rw[HJN.out];omega) (by rw[HD.out];exact HJ.out)
  refine ⟨rfl,F,⟨ws.take j,.slice (some ⟨g,0,none⟩) j c,?_⟩,HU2.out.setCell (p:=⟨b,3,none⟩) (.inl H.out.self) _,fun _ _ h=>h⟩
  ·rw[show (l.dropLast.length+63)/64=j by rw[HD.out];have:=HJ.out;omega]
   exact hc
 ·have hmI:((n:Int)%64==0)=false:=by rw[beq_eq_false_iff_ne];omega
  have HMM:=hid hm
  clear hm
  go_enter Tryz.func106,Tryz.ntmps106
  go_wp2_with (go_at_call 84;refine HT.out.mono ?_;rintro e w' ⟨rfl,q,rfl⟩)
  go_ret2
  refine ⟨rfl,F,⟨ws,v,?_⟩,?_,fun _ _ h=>h⟩
  ·have:=(H.out.drewN q).popped HL.out
   rw[show (l.dropLast.length+63)/64=n/64+1 by rw[HD.out];have:=HMM.out;omega]
   exact this
  ·exact ((Touch.refl F w).drewN q).setCell (p:=⟨b,4,none⟩) (.inl H.out.self) _
theorem pop_any (b:Nat) (F:Nat→Prop) (l:List Bool) (w:World) (h:StP Rs w b F l) (hl:l.length≤5000) :
   Calls Tryz.prog 106 #[.pointer (some ⟨b,3,none⟩)] w fun e w' =>
     e=.returned (.tuple #[.bool (l.getLast?.getD false),.bool (decide (0<l.length))]) ∧ ∃ F',StP Rs w' b F' l.dropLast∧Touch F w w' ∧ ∀ k,k<w.heap.size→F' k→F k:=by
 rcases Nat.eq_zero_or_pos l.length with h0|h0
 ·obtain rfl:l=[]:=List.eq_nil_of_length_eq_zero h0
  refine (pop_none b F w h).mono ?_
  rintro e w' ⟨rfl,q,rfl⟩
  obtain ⟨ws,v,h⟩:=h
  exact ⟨rfl,F,⟨ws,v,h.drewN q⟩,(Touch.refl F w).drewN q,fun _ _ h=>h⟩
 ·obtain ⟨n,hn⟩:∃ n,l.length=n+1:=⟨l.length-1,by omega⟩
  obtain ⟨ws,v,h⟩:=h
  rw[last_bit h hn,decide_eq_true h0]
  rw[show (l.length+63)/64=n/64+1 by omega] at h
  exact pop_some b F l ws v n w h hn hl
end KB
end Go.Proofs.YtbpilcklglhloaaGreatDoor
