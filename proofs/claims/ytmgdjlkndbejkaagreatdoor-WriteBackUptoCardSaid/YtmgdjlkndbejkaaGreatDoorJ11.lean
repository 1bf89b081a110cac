/- Lemmas. -/
import Derived.Test.YtmgdjlkndbejkaaGreatDoorJ10
import Derived.Test.YtmgdjlkndbejkaaGreatDoorJ09
import Derived.Lib.FrozenHead2
import Derived.Lib.OthersKept
import Derived.Lib.Builder
set_option maxRecDepth 100000
set_option maxHeartbeats 8000000
set_option linter.unusedVariables false
namespace Go.Proofs.YtmgdjlkndbejkaaGreatDoor
open Go.Lib (hid)
section
open Go.RowKit
def BldS (w:World) (b:Nat) (F:Nat→Prop) (l:List UInt8):Prop :=
 ∃ p v:Value,(p=.pointer none∨p=.pointer (some ⟨b,0,none⟩))∧Own w b 39 #[p,v]∧w.ownsRowF 0 5 1 v l.length (byteCells l)∧F b ∧ ∀ g,v.ownBlock=some g→F g∧g≠b
section
variable {w w':World} {b:Nat} {F G:Nat→Prop} {l:List UInt8}
theorem BldS.fresh (w:World) (F:Nat→Prop) (hF:F w.heap.size):BldS (w.alloc (.cells #[.pointer none,.slice none 0 0] 39)) w.heap.size F [] :=
 ⟨_,_,.inl rfl,Own.fresh _ _ _,⟨rfl,.inl ⟨rfl,rfl⟩⟩,hF,fun g hg=>by simp[Value.ownBlock] at hg⟩
theorem BldS.mono (h:BldS w b F l) (hs:∀ k,F k→G k):BldS w b G l:=by
 obtain ⟨p,v,hp,ho,hr,hb,hg⟩:=h
 exact ⟨p,v,hp,ho,hr,hs _ hb,fun g e=>⟨hs _ (hg g e).1,(hg g e).2⟩⟩
theorem ownsRowF_touch {base n:Nat} {e:TypeId} {v:Value} {xs:List Value} (h:w.ownsRowF base e 1 v n xs) (ht:Touch G w w') (hn:∀ g,v.ownBlock=some g→¬ G g):w'.ownsRowF base e 1 v n xs:=by
 refine ⟨h.1,?_⟩
 rcases h.2 with hh|⟨g,c,cur,fz,rfl,hb,hg,rest⟩
 ·exact .inl hh
 ·exact .inr ⟨g,c,cur,fz,rfl,hb,(ht.block g (Array.getElem?_eq_some_iff.1 hg).1 (hn g rfl)).trans hg,rest⟩
theorem BldS.stay (h:BldS w b F l) (ht:Touch G w w') (hn:∀ k,k<w.heap.size→F k→¬ G k):BldS w' b F l:=by
 obtain ⟨p,v,hp,ho,hr,hb,hg⟩:=h
 have hl:=hr.lt
 exact ⟨p,v,hp,ht.own ho (hn _ ho.inside hb),ownsRowF_touch hr ht (fun g e=>hn g (hl g e).2 (hg g e).1),hb,hg⟩
theorem BldS.inside (h:BldS w b F l):b<w.heap.size:=by
 obtain ⟨p,v,hp,ho,hr,hb,hg⟩:=h
 exact ho.inside
theorem BldS.is (h:BldS w b F l) {B:Nat} (hB:∀ k,F k→B≤k):Lib.IsBuilderF 39 5 B b (Lib.byteCells l) w:=by
 obtain ⟨p,v,hp,ho,hr,hb,hg⟩:=h
 have e:Lib.byteCells l=byteCells l:=rfl
 have hr':w.ownsRowF B 5 1 v (byteCells l).length (byteCells l):=by
   refine ⟨by simp,?_⟩
   rw[byteCells_length]
   rcases hr.2 with hh|⟨g,c,cur,fz,rfl,_,hgg,rest⟩
   ·exact .inl hh
   ·exact .inr ⟨g,c,cur,fz,rfl,hB _ (hg g rfl).1,hgg,rest⟩
 rw[e]
 rcases hp with rfl|rfl
 ·exact .inl ⟨hB _ hb,v,ho,hr',fun e=>(hg b e).2 rfl⟩
 ·exact .inr ⟨hB _ hb,v,ho,hr',fun e=>(hg b e).2 rfl⟩
end
theorem ret_iv {k:IntKind}{a b:Int}{v:Value}(h:a=b):Ending.returned (.tuple #[.int k a,v])=.returned (.tuple #[.int k b,v]):=by rw[h]
def Wrote (w:World) (b:Nat) (F:Nat→Prop) (l:List UInt8) (v:Value) (e:Ending) (w':World):Prop :=
 e=.returned v∧BldS w' b (fun k=>F k∨w.heap.size≤k) l∧Touch F w w'
theorem bld_size:(Tryz.prog.info? 39).map (fun i=>i.size)=some 2:=by kernel_rfl
theorem copyCheck_any (b:Nat) (F:Nat→Prop) (l:List UInt8) (w:World) (h:BldS w b F l) :
   Calls Tryz.prog 29 #[.pointer (some ⟨b,0,none⟩)] w (Wrote w b F l (.tuple #[])):=by
 obtain ⟨p,v,hp,ho,hr,hb,hg⟩:=h
 obtain ⟨j,hj,hjs⟩:=Option.map_eq_some_iff.1 bld_size
 have c0:=ho.at 0
 have f0:=ho.free 0
 have hsh:w.shape? b=some (39,2):=by
   have:=ho
   unfold Own at this
   simp[World.shape?,this]
 simp at c0
 have HO:=hid ho
 have HR:=hid hr
 have HG:=hid hg
 clear ho hr hg
 rcases hp with rfl|rfl
 ·go_enter Tryz.func29,Tryz.ntmps29
  go_wp2
  rw[Lib.run_to_unsafe w ⟨b,0,none⟩ Tryz.underlying36 Tryz.underlying81 hj (by rw[hjs];decide) hsh (Nat.zero_lt_succ 1)]
  simp only [Result.andThen]
  rw[Oper.upon_value]
  go_wp2
  rw[run_callFunc_extern Tryz.func47 (by kernel_rfl) (by kernel_rfl) (by kernel_rfl) (e:=Extern.AbiNoEscape.same) (by kernel_rfl)]
  rw[Lib.run_noEscape]
  simp only [Result.andThen]
  rw[Oper.upon_value]
  go_wp2
  rw[Lib.run_from_unsafe w ⟨b,0,none⟩ Tryz.underlying81 Tryz.underlying36 hj hsh (by kernel_rfl)]
  simp only [Result.andThen]
  rw[Oper.upon_value]
  go_wp2
  go_end0
  refine ⟨rfl,⟨_,v,.inr rfl,by simpa using HO.out.put 0 (.pointer (some ⟨b,0,none⟩)),?_,.inl hb,fun g e=>⟨.inl (HG.out g e).1,(HG.out g e).2⟩⟩,(Touch.refl _ _).setCell (.inl hb) _⟩
  refine ownsRowF_touch HR.out (Touch.setCell (F:=fun k=>k=b) (Touch.refl _ _) (p:=⟨b,0,none⟩) (.inl rfl) _) (fun g e=>(HG.out g e).2)
 ·go_enter Tryz.func29,Tryz.ntmps29
  go_wp2
  rw[Lib.run_neq_ptr_same w _ Tryz.underlying36 hj]
  go_wp2
  go_end0
  exact ⟨rfl,⟨_,v,.inr rfl,HO.out,HR.out,.inl hb,fun g e=>⟨.inl (HG.out g e).1,(HG.out g e).2⟩⟩,Touch.refl _ _⟩
theorem ownsRowF_form {w:World} {base n:Nat} {e:TypeId} {v:Value} {xs:List Value} (h:w.ownsRowF base e 1 v n xs) (hn:0<n):∃ g c,v=.slice (some ⟨g,0,none⟩) n c:=by
 rcases h.2 with ⟨_,h0⟩|⟨g,cap,cur,fz,hv,_⟩
 ·omega
 ·exact ⟨g,cap,hv⟩
theorem ownsRowF_slice {w:World} {base n:Nat} {e:TypeId} {v:Value} {xs:List Value} (h:w.ownsRowF base e 1 v n xs):∃ a c,v=.slice a n c:=by
 rcases h.2 with ⟨hv,h0⟩|⟨g,cap,cur,fz,hv,_⟩
 ·exact ⟨none,0,by rw[hv,h0]⟩
 ·exact ⟨_,_,hv⟩
theorem nil_row {w:World} {base base':Nat} {e:TypeId} {n:Nat} {xs:List Value} (h:w.ownsRowF base e 1 (.slice none 0 0) n xs):w.ownsRowF base' e 1 (.slice none 0 0) n xs:=by
 refine ⟨h.1,?_⟩
 rcases h.2 with hh|⟨g,c,cur,fz,hv,_⟩
 ·exact .inl hh
 ·cases hv
section
variable {P:Program}
theorem append_where (w:World) (t ty e:TypeId) (i:TypeInfo) (z:Value) (ht:P.underlying t=some (.slice e)) (hi:P.info? e=some i) (hz:i.zero=some z)
   (hsize:i.size=1) (hby:i.bytes=1) (hzs:z.cells.size=1) (v:Value) (n:Nat) (xs:List Value) (hown:w.ownsRowF 0 e 1 v n xs)
   (a:Addr) (m c:Nat) (news:List Value) (hl:news.length=m) (hnews:∀ j u,news[j]?=some u→w.cell? (a.add j)=some u) (h1:∀ u∈news,u.oneCell'=true)
   (h47:n+m≤140737488355328) :
   ∃ v' w',(Builtin.append_ #[t,t] ty #[v,.slice (some a) m c]).run P w=.ok v' w'∧w'.ownsRowF 0 e 1 v' (n+m) (xs++news)∧w.grownBy w' v.ownBlock ∧ ∀ k,v'.ownBlock=some k→v.ownBlock=some k∨w.heap.size≤k:=by
 have h63:n+m≤maxLen:=by unfold maxLen;omega
 obtain ⟨v',w',r1,r2,r3,_⟩:=run_append_ownF (P:=P) w 0 t ty e i z 1 1 ht hi hz hsize hby hzs (by decide) v n xs hown a m c news (by omega) hnews h1 h63 (by omega) (Nat.zero_le _)
 refine ⟨v',w',r1,r2,r3,?_⟩
 rcases hown.2 with ⟨rfl,rfl⟩|⟨g,cap,cur,fz,rfl,hbg,hg,hfz,hnc,hcm,hcs,htake⟩
 ·obtain ⟨v2,w2,q1,q2,_⟩:=run_append_ownF (P:=P) w w.heap.size t ty e i z 1 1 ht hi hz hsize hby hzs (by decide) (.slice none 0 0) 0 xs (nil_row hown) a m c news (by omega) hnews h1 h63 (by omega) (Nat.le_refl _)
  rw[r1] at q1
  cases q1
  exact fun k hk=>.inr (q2.lt k hk).1
 ·by_cases hroom:n+m≤cap
  ·have hr:=run_append_roomF (P:=P) w t ty e i ht hi g n cap cur fz hg (by rw[hsize];omega) a m c news (by rw[hsize];omega) hnews h1 hroom (by rw[hsize];omega)
   rw[r1] at hr
   cases hr
   exact fun k hk=>.inl hk
  ·have holds:∀ j u,xs[j]?=some u→w.cell? ((⟨g,0,none⟩:Addr).add j)=some u:=hown.cells (g:=g) rfl
   have hr:=run_append_grow (P:=P) w t ty e i z ht hi hz ⟨g,0,none⟩ n cap xs (by rw[hsize];exact hown.1) holds a m c news (by rw[hsize];omega) hnews (by omega) (by omega) (by rw[hby];exact growslice_fits (by omega) (by omega))
   rw[r1] at hr
   cases hr
   exact fun k hk=>.inr (by simp[Value.ownBlock] at hk;omega)
theorem append_where_str (w:World) (t u ty e:TypeId) (i:TypeInfo) (ht:P.underlying t=some (.slice e)) (hu:P.underlying u=some .string) (hi:P.info? e=some i) (hz:i.zero=some (.int .u8 0))
   (hsize:i.size=1) (hby:i.bytes=1) (v:Value) (n:Nat) (xs:List Value) (hown:w.ownsRowF 0 e 1 v n xs) (s:ByteArray) (h47:n+s.size≤140737488355328) :
   ∃ v' w',(Builtin.append_ #[t,u] ty #[v,.string s]).run P w=.ok v' w'∧w'.ownsRowF 0 e 1 v' (n+s.size) (xs++Lib.strCells s)∧w.grownBy w' v.ownBlock ∧ ∀ k,v'.ownBlock=some k→v.ownBlock=some k∨w.heap.size≤k:=by
 have h63:n+s.size≤maxLen:=by unfold maxLen;omega
 obtain ⟨v',w',r1,r2,r3,_⟩:=Lib.run_append_own_stringF (P:=P) w 0 t u ty e i ht hu hi hz hsize hby v n xs hown s h63 h47 (Nat.zero_le _)
 refine ⟨v',w',r1,r2,r3,?_⟩
 rcases hown.2 with ⟨rfl,rfl⟩|⟨g,cap,cur,fz,rfl,hbg,hg,hfz,hnc,hcm,hcs,htake⟩
 ·obtain ⟨v2,w2,q1,q2,_⟩:=Lib.run_append_own_stringF (P:=P) w w.heap.size t u ty e i ht hu hi hz hsize hby (.slice none 0 0) 0 xs (nil_row hown) s h63 h47 (Nat.le_refl _)
  rw[r1] at q1
  cases q1
  exact fun k hk=>.inr (q2.lt k hk).1
 ·by_cases hroom:n+s.size≤cap
  ·have hr:=Lib.run_append_room_stringF (P:=P) w t u ty e i ht hu hi hsize g n cap cur fz hg (by omega) s hroom (by omega)
   rw[r1] at hr
   cases hr
   exact fun k hk=>.inl hk
  ·have holds:∀ j u,xs[j]?=some u→w.cell? ((⟨g,0,none⟩:Addr).add j)=some u:=hown.cells (g:=g) rfl
   have hr:=Lib.run_append_grow_string (P:=P) w t u ty e i (.int .u8 0) ht hu hi hz ⟨g,0,none⟩ n cap xs (by rw[hsize];exact hown.1) holds s (by omega) (by omega) (by rw[hby];exact growslice_fits (by omega) (by omega))
   rw[r1] at hr
   cases hr
   exact fun k hk=>.inr (by simp[Value.ownBlock] at hk;omega)
end
theorem bld_append {w:World} {ops:Array Oper} {rest:List Oper} {o:Oper} {a:Act} {Q:Exit→Act→World→Prop} (hgd:o.guard=none) (s x:Operand)
   (ho:o.op=.call { callee:=.builtin .append,args:=#[s,x],argTypes:=#[37,37] })
   (v:Value) (n:Nat) (xs:List Value) (hs:a.eval s=v) (hown:w.ownsRowF 0 5 1 v n xs)
   (ad:Addr) (m c:Nat) (news:List Value) (hx:a.eval x=.slice (some ad) m c) (hl:news.length=m) (hnews:∀ j u,news[j]?=some u→w.cell? (ad.add j)=some u) (h1:∀ u∈news,u.oneCell'=true)
   (h47:n+m≤140737488355328)
   (h:∀ v' w',w'.ownsRowF 0 5 1 v' (n+m) (xs++news)→w.grownBy w' v.ownBlock→(∀ k,v'.ownBlock=some k→v.ownBlock=some k∨w.heap.size≤k)→wpList Tryz.prog ops Q rest (a.put o.dst v') w'):wpList Tryz.prog ops Q (o :: rest) a w:=by
 obtain ⟨i0,hi,hz0,hz1,hz2⟩:=info_parts byte_info
 refine wpList_plain hgd fun K hK => ?_
 obtain ⟨v',w',hr,h2,h3,h4⟩:=append_where (P:=Tryz.prog) w 37 o.type 5 i0 (.int .u8 0) Tryz.underlying37 hi hz0 hz1 hz2 rfl v n xs hown ad m c news hl hnews h1 h47
 unfold Oper.wp execOp
 simp only [ho,resolve,invoke,builtin,Sem.run_bind,Sem.run_pure,Result.andThen_ok,List.map_toArray,List.map_cons,List.map_nil,hs,hx,hr]
 exact hK _ _ (h v' w' h2 h3 h4)
theorem bld_append_str {w:World} {ops:Array Oper} {rest:List Oper} {o:Oper} {a:Act} {Q:Exit→Act→World→Prop} (hgd:o.guard=none) (s x:Operand)
   (ho:o.op=.call { callee:=.builtin .append,args:=#[s,x],argTypes:=#[37,9] })
   (v:Value) (n:Nat) (xs:List Value) (hs:a.eval s=v) (hown:w.ownsRowF 0 5 1 v n xs) (t:ByteArray) (hx:a.eval x=.string t)
   (h47:n+t.size≤140737488355328)
   (h:∀ v' w',w'.ownsRowF 0 5 1 v' (n+t.size) (xs++Lib.strCells t)→w.grownBy w' v.ownBlock→(∀ k,v'.ownBlock=some k→v.ownBlock=some k∨w.heap.size≤k)→wpList Tryz.prog ops Q rest (a.put o.dst v') w'):wpList Tryz.prog ops Q (o :: rest) a w:=by
 obtain ⟨i0,hi,hz0,hz1,hz2⟩:=info_parts byte_info
 refine wpList_plain hgd fun K hK => ?_
 obtain ⟨v',w',hr,h2,h3,h4⟩:=append_where_str (P:=Tryz.prog) w 37 9 o.type 5 i0 Tryz.underlying37 Tryz.underlying9 hi hz0 hz1 hz2 v n xs hown t h47
 unfold Oper.wp execOp
 simp only [ho,resolve,invoke,builtin,Sem.run_bind,Sem.run_pure,Result.andThen_ok,List.map_toArray,List.map_cons,List.map_nil,hs,hx,hr]
 exact hK _ _ (h v' w' h2 h3 h4)
theorem bld_put {w w1 w2:World} {b:Nat} {F:Nat→Prop} {l':List UInt8} {p v v':Value} (N:Nat) (hp:p=.pointer none∨p=.pointer (some ⟨b,0,none⟩)) (hb:F b) (hN:w.heap.size≤N) (hbN:b<N)
   (ho:Own w1 b 39 #[p,v]) (ht:Touch F w w1) (hg:∀ g,v.ownBlock=some g→(F g∨w.heap.size≤g)∧g≠b) (hr:w2.ownsRowF 0 5 1 v' l'.length (byteCells l')) (hgrow:w1.grownBy w2 v.ownBlock)
   (hwh:∀ k,v'.ownBlock=some k→v.ownBlock=some k∨N≤k) :
   BldS (w2.setCell ⟨b,1,none⟩ v') b (fun k=>F k∨w.heap.size≤k) l'∧Touch F w (w2.setCell ⟨b,1,none⟩ v'):=by
 have hne:v.ownBlock≠some b:=fun e=>(hg b e).2 rfl
 have ho2:Own w2 b 39 #[p,v]:=(hgrow.block b ho.inside (fun e=>hne e.symm)).trans ho
 have ht2:Touch F w w2:=ht.grown hgrow (fun k hk=>(hg k hk).1)
 have hin:=ho.inside
 have hne':∀ g,v'.ownBlock=some g→(F g∨w.heap.size≤g)∧g≠b:=fun g hgg=>by
   rcases hwh g hgg with h|h
   ·exact hg g h
   ·exact ⟨.inr (by omega),by omega⟩
 refine ⟨⟨p,v',hp,by simpa using ho2.put 1 v',?_,.inl hb,hne'⟩,ht2.setCell (.inl hb) _⟩
 exact ownsRowF_touch hr (Touch.setCell (F:=fun k=>k=b) (Touch.refl _ _) (p:=⟨b,1,none⟩) (.inl rfl) _) (fun g e=>(hne' g e).2)
theorem writeByte_any (b:Nat) (F:Nat→Prop) (l:List UInt8) (c:UInt8) (w:World) (h:BldS w b F l) (hlen:l.length≤140000000000000) :
   Calls Tryz.prog 61 #[.pointer (some ⟨b,0,none⟩),.int .u8 c.toNat] w (Wrote w b F (l++[c]) .nilIface):=by
 have HC:=hid (copyCheck_any b F l w h)
 have hin:=h.inside
 have hFb:F b:=by obtain ⟨p,v,hp,ho,hr,hb,hg⟩:=h;exact hb
 go_enter Tryz.func61,Tryz.ntmps61
 go_wp2_with (go_at_call 29;refine HC.out.mono ?_)
 rintro e w1 ⟨rfl,⟨p,v,hp,ho,hr,hb,hg⟩,ht⟩
 have c0:=ho.at 0
 have c1:=ho.at 1
 simp at c0 c1
 have f1:=ho.free 1
 have HO:=hid ho
 have HG:=hid hg
 have HT:=hid ht
 have hsz:=ht.size
 clear ho hg ht
 go_wp2_with (at_builtin;refine bld_append rfl _ _ rfl _ _ _ rfl (hr.alloc _) ⟨w1.heap.size,0,none⟩ 1 1 [.int .u8 c.toNat] rfl rfl ?c1 ?c2 ?c3 ?_)
 case c1 =>
   intro j u hj
   match j,hj with
   | 0,hj=>simp at hj;subst hj;simp[Addr.add]
   | (j+1),hj=>simp at hj
 case c2=>intro u hu;simp at hu;subst hu;rfl
 case c3=>omega
 intro v' w2 hown' hgrow hwh
 have ho1:Own (w1.alloc (.cells #[.int .u8 c.toNat] 5)) b 39 #[p,v]:=HO.out.over _
 have hne:v.ownBlock≠some b:=fun e=>(HG.out b e).2 rfl
 have ho2:Own w2 b 39 #[p,v]:=(hgrow.block b ho1.inside (fun e=>hne e.symm)).trans ho1
 have d1:=ho2.at 1
 have g1:=ho2.free 1
 have d0:=ho2.at 0
 simp at d1 d0
 have HO2:=hid (bld_put w.heap.size hp hFb (Nat.le_refl _) hin ho1 (HT.out.alloc _) HG.out (l':=l++[c]) (by simpa [byteCells] using hown') hgrow (fun k hk=>(hwh k hk).imp id (fun h=>by (try simp at h);omega)))
 obtain ⟨g,cap,rfl⟩:=ownsRowF_form hown' (by omega)
 clear hwh hown' hgrow ho1 ho2 hr
 go_wp2
 go_ret
 exact ⟨rfl,HO2.out⟩
theorem writeString_any (b:Nat) (F:Nat→Prop) (l:List UInt8) (s:ByteArray) (w:World) (h:BldS w b F l) (hlen:l.length+s.size≤140000000000000) :
   Calls Tryz.prog 11 #[.pointer (some ⟨b,0,none⟩),.string s] w (Wrote w b F (l++s.data.toList) (.tuple #[.int .i64 s.size,.nilIface])):=by
 have HC:=hid (copyCheck_any b F l w h)
 have hin:=h.inside
 have hFb:F b:=by obtain ⟨p,v,hp,ho,hr,hb,hg⟩:=h;exact hb
 go_enter Tryz.func11,Tryz.ntmps11
 go_wp2_with (go_at_call 29;refine HC.out.mono ?_)
 rintro e w1 ⟨rfl,⟨p,v,hp,ho,hr,hb,hg⟩,ht⟩
 have c0:=ho.at 0
 have c1:=ho.at 1
 simp at c0 c1
 have f1:=ho.free 1
 have HO:=hid ho
 have HG:=hid hg
 have HT:=hid ht
 have hsz:=ht.size
 clear ho hg ht
 go_wp2_with (at_builtin;refine bld_append_str rfl _ _ rfl _ _ _ rfl hr s rfl ?c3 ?_)
 case c3=>omega
 intro v' w2 hown' hgrow hwh
 have ho1:=HO.out
 have hne:v.ownBlock≠some b:=fun e=>(HG.out b e).2 rfl
 have ho2:Own w2 b 39 #[p,v]:=(hgrow.block b ho1.inside (fun e=>hne e.symm)).trans ho1
 have d1:=ho2.at 1
 have g1:=ho2.free 1
 have d0:=ho2.at 0
 simp at d1 d0
 have HO2:=hid (bld_put w.heap.size hp hFb (Nat.le_refl _) hin ho1 HT.out HG.out (l':=l++s.data.toList) (by rw[byteCells_append,List.length_append];exact hown') hgrow (fun k hk=>(hwh k hk).imp id (fun h=>by omega)))
 obtain ⟨a,cap,rfl⟩:=ownsRowF_slice hown'
 clear hwh hown' hgrow ho1 ho2 hr
 go_wp2
 go_ret2
 exact ⟨rfl,HO2.out⟩
def Appended (w:World) (v:Value) (n:Nat) (xs news:List Value) (e:Ending) (w':World):Prop :=
 ∃ v',e=.returned v'∧w'.ownsRowF 0 5 1 v' (n+news.length) (xs++news)∧(∃ o,(w.alloc o).grownBy w' v.ownBlock) ∧ ∀ k,v'.ownBlock=some k→v.ownBlock=some k∨w.heap.size≤k
theorem numCells (ns:List Int):∀ u∈ns.map (Value.int .u8),u.oneCell'=true:=by
 intro u hu
 obtain ⟨n,_,rfl⟩:=List.mem_map.1 hu
 rfl
theorem arn_two (v:Value) (n:Nat) (xs:List Value) (r:Int) (h0:128≤r) (h1:r≤2047) (w:World) (hown:w.ownsRowF 0 5 1 v n xs) (hlen:n≤140000000000000) :
   Calls Tryz.prog 103 #[v,.int .i32 r] w (Appended w v n xs [.int .u8 (192+r/64),.int .u8 (128+r%64)]):=by
 go_enter Tryz.func103,Tryz.ntmps103
 go_wp2_with (at_builtin;refine bld_append rfl _ _ rfl _ _ _ rfl (hown.alloc _) ⟨w.heap.size,0,none⟩ 2 2 [.int .u8 (192+r/64),.int .u8 (128+r%64)] rfl rfl ?c1 ?c2 ?c3 ?_)
 case c1 =>
   intro j u hj
   match j,hj with
   | 0,hj=>simp at hj;subst hj;simp[Addr.add]
   | 1,hj=>simp at hj;subst hj;simp[Addr.add]
   | (j+2),hj=>simp at hj
 case c2=>exact numCells [192+r/64,128+r%64]
 case c3=>omega
 intro v' w2 hown' hgrow hwh
 have hwh':∀ k,v'.ownBlock=some k→v.ownBlock=some k∨w.heap.size≤k:=fun k hk=>(hwh k hk).imp id (fun h=>by (try simp at h);omega)
 clear hwh
 go_wp2
 go_ret
 exact ⟨_,rfl,hown',⟨_,hgrow⟩,hwh'⟩
theorem arn_three_lo (v:Value) (n:Nat) (xs:List Value) (r:Int) (h0:2048≤r) (h1:r<55296) (w:World) (hown:w.ownsRowF 0 5 1 v n xs) (hlen:n≤140000000000000) :
   Calls Tryz.prog 103 #[v,.int .i32 r] w (Appended w v n xs [.int .u8 (224+r/4096),.int .u8 (128+r/64%64),.int .u8 (128+r%64)]):=by
 go_enter Tryz.func103,Tryz.ntmps103
 go_wp2_with (at_builtin;refine bld_append rfl _ _ rfl _ _ _ rfl (hown.alloc _) ⟨w.heap.size,0,none⟩ 3 3 [.int .u8 (224+r/4096),.int .u8 (128+r/64%64),.int .u8 (128+r%64)] rfl rfl ?c1 ?c2 ?c3 ?_)
 case c1 =>
   intro j u hj
   match j,hj with
   | 0,hj=>simp at hj;subst hj;simp[Addr.add]
   | 1,hj=>simp at hj;subst hj;simp[Addr.add]
   | 2,hj=>simp at hj;subst hj;simp[Addr.add]
   | (j+3),hj=>simp at hj
 case c2=>exact numCells [224+r/4096,128+r/64%64,128+r%64]
 case c3=>omega
 intro v' w2 hown' hgrow hwh
 have hwh':∀ k,v'.ownBlock=some k→v.ownBlock=some k∨w.heap.size≤k:=fun k hk=>(hwh k hk).imp id (fun h=>by (try simp at h);omega)
 clear hwh
 go_wp2
 go_ret
 exact ⟨_,rfl,hown',⟨_,hgrow⟩,hwh'⟩
theorem arn_three_hi (v:Value) (n:Nat) (xs:List Value) (r:Int) (h0:57343<r) (h1:r≤65535) (w:World) (hown:w.ownsRowF 0 5 1 v n xs) (hlen:n≤140000000000000) :
   Calls Tryz.prog 103 #[v,.int .i32 r] w (Appended w v n xs [.int .u8 (224+r/4096),.int .u8 (128+r/64%64),.int .u8 (128+r%64)]):=by
 go_enter Tryz.func103,Tryz.ntmps103
 go_wp2_with (at_builtin;refine bld_append rfl _ _ rfl _ _ _ rfl (hown.alloc _) ⟨w.heap.size,0,none⟩ 3 3 [.int .u8 (224+r/4096),.int .u8 (128+r/64%64),.int .u8 (128+r%64)] rfl rfl ?c1 ?c2 ?c3 ?_)
 case c1 =>
   intro j u hj
   match j,hj with
   | 0,hj=>simp at hj;subst hj;simp[Addr.add]
   | 1,hj=>simp at hj;subst hj;simp[Addr.add]
   | 2,hj=>simp at hj;subst hj;simp[Addr.add]
   | (j+3),hj=>simp at hj
 case c2=>exact numCells [224+r/4096,128+r/64%64,128+r%64]
 case c3=>omega
 intro v' w2 hown' hgrow hwh
 have hwh':∀ k,v'.ownBlock=some k→v.ownBlock=some k∨w.heap.size≤k:=fun k hk=>(hwh k hk).imp id (fun h=>by (try simp at h);omega)
 clear hwh
 go_wp2
 go_ret
 exact ⟨_,rfl,hown',⟨_,hgrow⟩,hwh'⟩
theorem arn_four (v:Value) (n:Nat) (xs:List Value) (r:Int) (h0:65536≤r) (h1:r≤1114111) (w:World) (hown:w.ownsRowF 0 5 1 v n xs) (hlen:n≤140000000000000) :
   Calls Tryz.prog 103 #[v,.int .i32 r] w (Appended w v n xs [.int .u8 (240+r/262144),.int .u8 (128+r/4096%64),.int .u8 (128+r/64%64),.int .u8 (128+r%64)]):=by
 go_enter Tryz.func103,Tryz.ntmps103
 go_wp2_with (at_builtin;refine bld_append rfl _ _ rfl _ _ _ rfl (hown.alloc _) ⟨w.heap.size,0,none⟩ 4 4 [.int .u8 (240+r/262144),.int .u8 (128+r/4096%64),.int .u8 (128+r/64%64),.int .u8 (128+r%64)] rfl rfl ?c1 ?c2 ?c3 ?_)
 case c1 =>
   intro j u hj
   match j,hj with
   | 0,hj=>simp at hj;subst hj;simp[Addr.add]
   | 1,hj=>simp at hj;subst hj;simp[Addr.add]
   | 2,hj=>simp at hj;subst hj;simp[Addr.add]
   | 3,hj=>simp at hj;subst hj;simp[Addr.add]
   | (j+4),hj=>simp at hj
 case c2=>exact numCells [240+r/262144,128+r/4096%64,128+r/64%64,128+r%64]
 case c3=>omega
 intro v' w2 hown' hgrow hwh
 have hwh':∀ k,v'.ownBlock=some k→v.ownBlock=some k∨w.heap.size≤k:=fun k hk=>(hwh k hk).imp id (fun h=>by (try simp at h);omega)
 clear hwh
 go_wp2
 go_ret
 exact ⟨_,rfl,hown',⟨_,hgrow⟩,hwh'⟩
def Rn (r:Int):Prop:=0≤r∧r≤1114111∧(r<55296∨57343<r)
theorem arn_any (v:Value) (n:Nat) (xs:List Value) (r:Int) (h:Rn r) (h0:128≤r) (w:World) (hown:w.ownsRowF 0 5 1 v n xs) (hlen:n≤140000000000000) :
   Calls Tryz.prog 103 #[v,.int .i32 r] w (Appended w v n xs (Lib.runeCells r)):=by
 unfold Lib.runeCells
 obtain ⟨_,h1,h2⟩:=h
 by_cases a:r≤2047
 ·rw[Lib.encodeRuneZ_two h0 a]
  exact arn_two v n xs r h0 a w hown hlen
 by_cases b:r<55296
 ·rw[Lib.encodeRuneZ_three (by omega)]
  exact arn_three_lo v n xs r (by omega) b w hown hlen
 by_cases c:r≤65535
 ·rw[Lib.encodeRuneZ_three (by omega)]
  exact arn_three_hi v n xs r (by omega) c w hown hlen
 ·rw[Lib.encodeRuneZ_four (by omega) h1]
  exact arn_four v n xs r (by omega) h1 w hown hlen
theorem appendRune_any (v:Value) (n:Nat) (xs:List Value) (r:Int) (h:Rn r) (w:World) (hown:w.ownsRowF 0 5 1 v n xs) (hlen:n≤140000000000000) :
   Calls Tryz.prog 91 #[v,.int .i32 r] w (Appended w v n xs (Lib.runeCells r)):=by
 have h0:0≤r:=h.1
 have h1:r≤1114111:=h.2.1
 by_cases h7:r≤127
 ·have e:Lib.runeCells r=[.int .u8 r]:=by unfold Lib.runeCells;rw[Lib.encodeRuneZ_one h0 h7];rfl
  rw[e]
  clear e h
  go_enter Tryz.func91,Tryz.ntmps91
  go_wp2_with (at_builtin;refine bld_append rfl _ _ rfl _ _ _ rfl (hown.alloc _) ⟨w.heap.size,0,none⟩ 1 1 [.int .u8 r] rfl rfl ?c1 ?c2 ?c3 ?_)
  case c1 =>
    intro j u hj
    match j,hj with
    | 0,hj=>simp at hj;subst hj;simp[Addr.add]
    | (j+1),hj=>simp at hj
  case c2=>exact numCells [r]
  case c3=>omega
  intro v' w2 hown' hgrow hwh
  have hwh':∀ k,v'.ownBlock=some k→v.ownBlock=some k∨w.heap.size≤k:=fun k hk=>(hwh k hk).imp id (fun h=>by (try simp at h);omega)
  clear hwh
  go_wp2
  go_ret
  exact ⟨_,rfl,hown',⟨_,hgrow⟩,hwh'⟩
 ·have HA:=hid (arn_any v n xs r h (by omega) w hown hlen)
  have h7':127<r:=by omega
  clear hown h
  go_enter Tryz.func91,Tryz.ntmps91
  go_wp2_with (go_at_call 103;refine HA.out.mono ?_)
  rintro e w1 ⟨v',rfl,hh⟩
  have HH:=hid hh
  clear hh
  go_wp2
  go_ret
  exact ⟨_,rfl,HH.out⟩
theorem writeRune_any (b:Nat) (F:Nat→Prop) (l:List UInt8) (r:Int) (h:Rn r) (w:World) (hB:BldS w b F l) (hlen:l.length≤130000000000000) :
   Calls Tryz.prog 77 #[.pointer (some ⟨b,0,none⟩),.int .i32 r] w (Wrote w b F (l++Lib.encodeRune r) (.tuple #[.int .i64 (Lib.encodeRune r).length,.nilIface])):=by
 have HC:=hid (copyCheck_any b F l w hB)
 have hin:=hB.inside
 have hFb:F b:=by obtain ⟨p,v,hp,ho,hr,hb,hg⟩:=hB;exact hb
 clear hB
 go_enter Tryz.func77,Tryz.ntmps77
 go_wp2_with (go_at_call 29;refine HC.out.mono ?_)
 rintro e w1 ⟨rfl,⟨p,v,hp,ho,hr,hb,hg⟩,ht⟩
 have HA:=hid (appendRune_any v l.length (byteCells l) r h w1 hr (by omega))
 obtain ⟨a0,cap0,hv0⟩:=ownsRowF_slice hr
 have c0:=ho.at 0
 have c1:=ho.at 1
 simp at c0 c1
 have f1:=ho.free 1
 have HO:=hid ho
 have HG:=hid hg
 have HT:=hid ht
 have hsz:=ht.size
 clear ho hg ht hr h HC
 subst hv0
 go_wp2_with (go_at_call 91;refine HA.out.mono ?_)
 rintro e w2 ⟨v',rfl,hown',⟨o,hgrow⟩,hwh⟩
 have ho1:=HO.out.over o
 have hne:(Value.slice a0 l.length cap0).ownBlock≠some b:=fun e=>(HG.out b e).2 rfl
 have ho2:Own w2 b 39 #[p,.slice a0 l.length cap0]:=(hgrow.block b ho1.inside (fun e=>hne e.symm)).trans ho1
 have d1:=ho2.at 1
 have g1:=ho2.free 1
 have d0:=ho2.at 0
 simp at d1 d0
 have hlr:(Lib.runeCells r).length=(Lib.encodeRune r).length:=Lib.runeCells_length r
 have hl4:=Lib.runeCells_le r
 have HO2:=hid (bld_put w.heap.size hp hFb (Nat.le_refl _) hin ho1 (HT.out.alloc _) HG.out (l':=l++Lib.encodeRune r)
   (by rw[byteCells_append,List.length_append,← hlr];rw[show byteCells (Lib.encodeRune r)=Lib.runeCells r from Lib.byteCells_encodeRune r];exact hown') hgrow (fun k hk=>(hwh k hk).imp id (fun h=>by omega)))
 rw[hlr] at hl4 hown'
 generalize (Lib.encodeRune r).length=m at *
 obtain ⟨a,cap,rfl⟩:=ownsRowF_slice hown'
 clear hwh hown' hgrow ho1 ho2 hlr
 go_wp2
 go_ret2
 exact ⟨ret_iv (show (l.length:Int)+m-l.length=m by omega),HO2.out⟩
end
end Go.Proofs.YtmgdjlkndbejkaaGreatDoor
