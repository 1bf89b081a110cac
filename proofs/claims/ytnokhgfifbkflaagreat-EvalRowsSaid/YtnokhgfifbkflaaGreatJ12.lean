/- Lemmas. -/
import Derived.Test.YtnokhgfifbkflaaGreatProg
import Derived.Test.YtnokhgfifbkflaaGreatJ11
import Derived.Shelf.Slices.Cells
import Derived.Shelf.Small.Bits
import Derived.Shelf.Small.Strs
import Derived.Shelf.Small.Wraps
import Derived.Shelf.Strings.BuilderK
import Derived.Shelf.Strings.OnBuilder
set_option maxRecDepth 100000
set_option maxHeartbeats 8000000
set_option linter.unusedVariables false
namespace Go.Proofs.YtnokhgfifbkflaaGreat
open Go.Lib (hid)
section
open Go.RowKit
def BldS (w:World) (b:Nat) (F:Nat→Prop) (l:List UInt8):Prop :=
 ∃ p v:Value,(p=.pointer none∨p=.pointer (some ⟨b,0,none⟩))∧Own w b 178 #[p,v]∧w.ownsRowF 0 5 1 v l.length (byteCells l)∧F b ∧ ∀ g,v.ownBlock=some g→F g∧g≠b
section
variable {w w':World} {b:Nat} {F G:Nat→Prop} {l:List UInt8}
theorem BldS.fresh (w:World) (F:Nat→Prop) (hF:F w.heap.size):BldS (w.alloc (.cells #[.pointer none,.slice none 0 0] 178)) w.heap.size F [] :=
 ⟨_,_,.inl rfl,Own.fresh _ _ _,⟨rfl,.inl ⟨rfl,rfl⟩⟩,hF,fun g hg=>by simp[Value.ownBlock] at hg⟩
theorem BldS.mono (h:BldS w b F l) (hs:∀ k,F k→G k):BldS w b G l:=by
 obtain ⟨p,v,hp,ho,hr,hb,hg⟩:=h
 exact ⟨p,v,hp,ho,hr,hs _ hb,fun g e=>⟨hs _ (hg g e).1,(hg g e).2⟩⟩
theorem ownsRowF_touch {base n:Nat} {e:TypeId} {v:Value} {xs:List Value} (h:w.ownsRowF base e 1 v n xs) (ht:Touch G w w') (hn:∀ g,v.ownBlock=some g→¬ G g):w'.ownsRowF base e 1 v n xs:=by
 refine ⟨h.1,?_⟩
 rcases h.2 with hh|⟨g,c,cur,fz,rfl,hb,hg,rest⟩
 ·exact .inl hh
 ·exact .inr ⟨g,c,cur,fz,rfl,hb,(ht.block g (Array.getElem?_eq_some_iff.1 hg).1 (hn g rfl)).trans hg,rest⟩
theorem BldS.stay (h:BldS w b F l) (ht:Touch G w w') (hn:∀ k,k<w.heap.size→F k→¬ G k):BldS w' b F l:=by
 obtain ⟨p,v,hp,ho,hr,hb,hg⟩:=h
 have hl:=hr.lt
 exact ⟨p,v,hp,ht.own ho (hn _ ho.inside hb),ownsRowF_touch hr ht (fun g e=>hn g (hl g e).2 (hg g e).1),hb,hg⟩
theorem BldS.inside (h:BldS w b F l):b<w.heap.size:=by
 obtain ⟨p,v,hp,ho,hr,hb,hg⟩:=h
 exact ho.inside
theorem BldS.is (h:BldS w b F l) {B:Nat} (hB:∀ k,F k→B≤k):Lib.IsBuilderF 178 5 B b (Lib.byteCells l) w:=by
 obtain ⟨p,v,hp,ho,hr,hb,hg⟩:=h
 have e:Lib.byteCells l=byteCells l:=rfl
 have hr':w.ownsRowF B 5 1 v (byteCells l).length (byteCells l):=by
   refine ⟨by simp,?_⟩
   rw[byteCells_length]
   rcases hr.2 with hh|⟨g,c,cur,fz,rfl,_,hgg,rest⟩
   ·exact .inl hh
   ·exact .inr ⟨g,c,cur,fz,rfl,hB _ (hg g rfl).1,hgg,rest⟩
 rw[e]
 rcases hp with rfl|rfl
 ·exact .inl ⟨hB _ hb,v,ho,hr',fun e=>(hg b e).2 rfl⟩
 ·exact .inr ⟨hB _ hb,v,ho,hr',fun e=>(hg b e).2 rfl⟩
end
def Wrote (w:World) (b:Nat) (F:Nat→Prop) (l:List UInt8) (v:Value) (e:Ending) (w':World):Prop :=
 e=.returned v∧BldS w' b (fun k=>F k∨w.heap.size≤k) l∧Touch F w w'
theorem bld_size:(Tryz.prog.info? 178).map (fun i=>i.size)=some 2:=by kernel_rfl
theorem copyCheck_any (b:Nat) (F:Nat→Prop) (l:List UInt8) (w:World) (h:BldS w b F l) :
   Calls Tryz.prog 129 #[.pointer (some ⟨b,0,none⟩)] w (Wrote w b F l (.tuple #[])):=by
 obtain ⟨p,v,hp,ho,hr,hb,hg⟩:=h
 obtain ⟨j,hj,hjs⟩:=Option.map_eq_some_iff.1 bld_size
 have c0:=ho.at 0
 have f0:=ho.free 0
 have hsh:w.shape? b=some (178,2):=by
   have:=ho
   unfold Own at this
   simp[World.shape?,this]
 simp at c0
 have HO:=hid ho
 have HR:=hid hr
 have HG:=hid hg
 clear ho hr hg
 rcases hp with rfl|rfl
 ·go_enter Tryz.func129,Tryz.ntmps129
  go_wp2
  rw[Lib.run_to_unsafe w ⟨b,0,none⟩ Tryz.underlying176 Tryz.underlying197 hj (by rw[hjs];decide) hsh (Nat.zero_lt_succ 1)]
  simp only [Result.andThen]
  rw[Oper.upon_value]
  go_wp2
  rw[run_callFunc_extern Tryz.func136 (by kernel_rfl) (by kernel_rfl) (by kernel_rfl) (e:=Extern.AbiNoEscape.same) (by kernel_rfl)]
  rw[Lib.run_noEscape]
  simp only [Result.andThen]
  rw[Oper.upon_value]
  go_wp2
  rw[Lib.run_from_unsafe w ⟨b,0,none⟩ Tryz.underlying197 Tryz.underlying176 hj hsh (by kernel_rfl)]
  simp only [Result.andThen]
  rw[Oper.upon_value]
  go_wp2
  go_end0
  refine ⟨rfl,⟨_,v,.inr rfl,by simpa using HO.out.put 0 (.pointer (some ⟨b,0,none⟩)),?_,.inl hb,fun g e=>⟨.inl (HG.out g e).1,(HG.out g e).2⟩⟩,(Touch.refl _ _).setCell (.inl hb) _⟩
  refine ownsRowF_touch HR.out (Touch.setCell (F:=fun k=>k=b) (Touch.refl _ _) (p:=⟨b,0,none⟩) (.inl rfl) _) (fun g e=>(HG.out g e).2)
 ·go_enter Tryz.func129,Tryz.ntmps129
  go_wp2
  rw[Lib.run_neq_ptr_same w _ Tryz.underlying176 hj]
  go_wp2
  go_end0
  exact ⟨rfl,⟨_,v,.inr rfl,HO.out,HR.out,.inl hb,fun g e=>⟨.inl (HG.out g e).1,(HG.out g e).2⟩⟩,Touch.refl _ _⟩
theorem ownsRowF_form {w:World} {base n:Nat} {e:TypeId} {v:Value} {xs:List Value} (h:w.ownsRowF base e 1 v n xs) (hn:0<n):∃ g c,v=.slice (some ⟨g,0,none⟩) n c:=by
 rcases h.2 with ⟨_,h0⟩|⟨g,cap,cur,fz,hv,_⟩
 ·omega
 ·exact ⟨g,cap,hv⟩
theorem ownsRowF_slice {w:World} {base n:Nat} {e:TypeId} {v:Value} {xs:List Value} (h:w.ownsRowF base e 1 v n xs):∃ a c,v=.slice a n c:=by
 rcases h.2 with ⟨hv,h0⟩|⟨g,cap,cur,fz,hv,_⟩
 ·exact ⟨none,0,by rw[hv,h0]⟩
 ·exact ⟨_,_,hv⟩
theorem nil_row {w:World} {base base':Nat} {e:TypeId} {n:Nat} {xs:List Value} (h:w.ownsRowF base e 1 (.slice none 0 0) n xs):w.ownsRowF base' e 1 (.slice none 0 0) n xs:=by
 refine ⟨h.1,?_⟩
 rcases h.2 with hh|⟨g,c,cur,fz,hv,_⟩
 ·exact .inl hh
 ·cases hv
section
variable {P:Program}
theorem append_where (w:World) (t ty e:TypeId) (i:TypeInfo) (z:Value) (ht:P.underlying t=some (.slice e)) (hi:P.info? e=some i) (hz:i.zero=some z)
   (hsize:i.size=1) (hby:i.bytes=1) (hzs:z.cells.size=1) (v:Value) (n:Nat) (xs:List Value) (hown:w.ownsRowF 0 e 1 v n xs)
   (a:Addr) (m c:Nat) (news:List Value) (hl:news.length=m) (hnews:∀ j u,news[j]?=some u→w.cell? (a.add j)=some u) (h1:∀ u∈news,u.oneCell'=true)
   (h47:n+m≤140737488355328) :
   ∃ v' w',(Builtin.append_ #[t,t] ty #[v,.slice (some a) m c]).run P w=.ok v' w'∧w'.ownsRowF 0 e 1 v' (n+m) (xs++news)∧w.grownBy w' v.ownBlock ∧ ∀ k,v'.ownBlock=some k→v.ownBlock=some k∨w.heap.size≤k:=by
 have h63:n+m≤maxLen:=by unfold maxLen;omega
 obtain ⟨v',w',r1,r2,r3,_⟩:=run_append_ownF (P:=P) w 0 t ty e i z 1 1 ht hi hz hsize hby hzs (by decide) v n xs hown a m c news (by omega) hnews h1 h63 (by omega) (Nat.zero_le _)
 refine ⟨v',w',r1,r2,r3,?_⟩
 rcases hown.2 with ⟨rfl,rfl⟩|⟨g,cap,cur,fz,rfl,hbg,hg,hfz,hnc,hcm,hcs,htake⟩
 ·obtain ⟨v2,w2,q1,q2,_⟩:=run_append_ownF (P:=P) w w.heap.size t ty e i z 1 1 ht hi hz hsize hby hzs (by decide) (.slice none 0 0) 0 xs (nil_row hown) a m c news (by omega) hnews h1 h63 (by omega) (Nat.le_refl _)
  rw[r1] at q1
  cases q1
  exact fun k hk=>.inr (q2.lt k hk).1
 ·by_cases hroom:n+m≤cap
  ·have hr:=run_append_roomF (P:=P) w t ty e i ht hi g n cap cur fz hg (by rw[hsize];omega) a m c news (by rw[hsize];omega) hnews h1 hroom (by rw[hsize];omega)
   rw[r1] at hr
   cases hr
   exact fun k hk=>.inl hk
  ·have holds:∀ j u,xs[j]?=some u→w.cell? ((⟨g,0,none⟩:Addr).add j)=some u:=hown.cells (g:=g) rfl
   have hr:=run_append_grow (P:=P) w t ty e i z ht hi hz ⟨g,0,none⟩ n cap xs (by rw[hsize];exact hown.1) holds a m c news (by rw[hsize];omega) hnews (by omega) (by omega) (by rw[hby];exact growslice_fits (by omega) (by omega))
   rw[r1] at hr
   cases hr
   exact fun k hk=>.inr (by simp[Value.ownBlock] at hk;omega)
theorem append_where_str (w:World) (t u ty e:TypeId) (i:TypeInfo) (ht:P.underlying t=some (.slice e)) (hu:P.underlying u=some .string) (hi:P.info? e=some i) (hz:i.zero=some (.int .u8 0))
   (hsize:i.size=1) (hby:i.bytes=1) (v:Value) (n:Nat) (xs:List Value) (hown:w.ownsRowF 0 e 1 v n xs) (s:ByteArray) (h47:n+s.size≤140737488355328) :
   ∃ v' w',(Builtin.append_ #[t,u] ty #[v,.string s]).run P w=.ok v' w'∧w'.ownsRowF 0 e 1 v' (n+s.size) (xs++Lib.strCells s)∧w.grownBy w' v.ownBlock ∧ ∀ k,v'.ownBlock=some k→v.ownBlock=some k∨w.heap.size≤k:=by
 have h63:n+s.size≤maxLen:=by unfold maxLen;omega
 obtain ⟨v',w',r1,r2,r3,_⟩:=Lib.run_append_own_stringF (P:=P) w 0 t u ty e i ht hu hi hz hsize hby v n xs hown s h63 h47 (Nat.zero_le _)
 refine ⟨v',w',r1,r2,r3,?_⟩
 rcases hown.2 with ⟨rfl,rfl⟩|⟨g,cap,cur,fz,rfl,hbg,hg,hfz,hnc,hcm,hcs,htake⟩
 ·obtain ⟨v2,w2,q1,q2,_⟩:=Lib.run_append_own_stringF (P:=P) w w.heap.size t u ty e i ht hu hi hz hsize hby (.slice none 0 0) 0 xs (nil_row hown) s h63 h47 (Nat.le_refl _)
  rw[r1] at q1
  cases q1
  exact fun k hk=>.inr (q2.lt k hk).1
 ·by_cases hroom:n+s.size≤cap
  ·have hr:=Lib.run_append_room_stringF (P:=P) w t u ty e i ht hu hi hsize g n cap cur fz hg (by omega) s hroom (by omega)
   rw[r1] at hr
   cases hr
   exact fun k hk=>.inl hk
  ·have holds:∀ j u,xs[j]?=some u→w.cell? ((⟨g,0,none⟩:Addr).add j)=some u:=hown.cells (g:=g) rfl
   have hr:=Lib.run_append_grow_string (P:=P) w t u ty e i (.int .u8 0) ht hu hi hz ⟨g,0,none⟩ n cap xs (by rw[hsize];exact hown.1) holds s (by omega) (by omega) (by rw[hby];exact growslice_fits (by omega) (by omega))
   rw[r1] at hr
   cases hr
   exact fun k hk=>.inr (by simp[Value.ownBlock] at hk;omega)
end
theorem bld_append {w:World} {ops:Array Oper} {rest:List Oper} {o:Oper} {a:Act} {Q:Exit→Act→World→Prop} (hgd:o.guard=none) (s x:Operand)
   (ho:o.op=.call { callee:=.builtin .append,args:=#[s,x],argTypes:=#[22,22] })
   (v:Value) (n:Nat) (xs:List Value) (hs:a.eval s=v) (hown:w.ownsRowF 0 5 1 v n xs)
   (ad:Addr) (m c:Nat) (news:List Value) (hx:a.eval x=.slice (some ad) m c) (hl:news.length=m) (hnews:∀ j u,news[j]?=some u→w.cell? (ad.add j)=some u) (h1:∀ u∈news,u.oneCell'=true)
   (h47:n+m≤140737488355328)
   (h:∀ v' w',w'.ownsRowF 0 5 1 v' (n+m) (xs++news)→w.grownBy w' v.ownBlock→(∀ k,v'.ownBlock=some k→v.ownBlock=some k∨w.heap.size≤k)→wpList Tryz.prog ops Q rest (a.put o.dst v') w'):wpList Tryz.prog ops Q (o :: rest) a w:=by
 obtain ⟨i0,hi,hz0,hz1,hz2⟩:=info_parts byte_info
 refine wpList_plain hgd fun K hK => ?_
 obtain ⟨v',w',hr,h2,h3,h4⟩:=append_where (P:=Tryz.prog) w 22 o.type 5 i0 (.int .u8 0) Tryz.underlying22 hi hz0 hz1 hz2 rfl v n xs hown ad m c news hl hnews h1 h47
 unfold Oper.wp execOp
 simp only [ho,resolve,invoke,builtin,Sem.run_bind,Sem.run_pure,Result.andThen_ok,List.map_toArray,List.map_cons,List.map_nil,hs,hx,hr]
 exact hK _ _ (h v' w' h2 h3 h4)
theorem bld_append_str {w:World} {ops:Array Oper} {rest:List Oper} {o:Oper} {a:Act} {Q:Exit→Act→World→Prop} (hgd:o.guard=none) (s x:Operand)
   (ho:o.op=.call { callee:=.builtin .append,args:=#[s,x],argTypes:=#[22,9] })
   (v:Value) (n:Nat) (xs:List Value) (hs:a.eval s=v) (hown:w.ownsRowF 0 5 1 v n xs) (t:ByteArray) (hx:a.eval x=.string t)
   (h47:n+t.size≤140737488355328)
   (h:∀ v' w',w'.ownsRowF 0 5 1 v' (n+t.size) (xs++Lib.strCells t)→w.grownBy w' v.ownBlock→(∀ k,v'.ownBlock=some k→v.ownBlock=some k∨w.heap.size≤k)→wpList Tryz.prog ops Q rest (a.put o.dst v') w'):wpList Tryz.prog ops Q (o :: rest) a w:=by
 obtain ⟨i0,hi,hz0,hz1,hz2⟩:=info_parts byte_info
 refine wpList_plain hgd fun K hK => ?_
 obtain ⟨v',w',hr,h2,h3,h4⟩:=append_where_str (P:=Tryz.prog) w 22 9 o.type 5 i0 Tryz.underlying22 Tryz.underlying9 hi hz0 hz1 hz2 v n xs hown t h47
 unfold Oper.wp execOp
 simp only [ho,resolve,invoke,builtin,Sem.run_bind,Sem.run_pure,Result.andThen_ok,List.map_toArray,List.map_cons,List.map_nil,hs,hx,hr]
 exact hK _ _ (h v' w' h2 h3 h4)
theorem bld_put {w w1 w2:World} {b:Nat} {F:Nat→Prop} {l':List UInt8} {p v v':Value} (N:Nat) (hp:p=.pointer none∨p=.pointer (some ⟨b,0,none⟩)) (hb:F b) (hN:w.heap.size≤N) (hbN:b<N)
   (ho:Own w1 b 178 #[p,v]) (ht:Touch F w w1) (hg:∀ g,v.ownBlock=some g→(F g∨w.heap.size≤g)∧g≠b) (hr:w2.ownsRowF 0 5 1 v' l'.length (byteCells l')) (hgrow:w1.grownBy w2 v.ownBlock)
   (hwh:∀ k,v'.ownBlock=some k→v.ownBlock=some k∨N≤k) :
   BldS (w2.setCell ⟨b,1,none⟩ v') b (fun k=>F k∨w.heap.size≤k) l'∧Touch F w (w2.setCell ⟨b,1,none⟩ v'):=by
 have hne:v.ownBlock≠some b:=fun e=>(hg b e).2 rfl
 have ho2:Own w2 b 178 #[p,v]:=(hgrow.block b ho.inside (fun e=>hne e.symm)).trans ho
 have ht2:Touch F w w2:=ht.grown hgrow (fun k hk=>(hg k hk).1)
 have hin:=ho.inside
 have hne':∀ g,v'.ownBlock=some g→(F g∨w.heap.size≤g)∧g≠b:=fun g hgg=>by
   rcases hwh g hgg with h|h
   ·exact hg g h
   ·exact ⟨.inr (by omega),by omega⟩
 refine ⟨⟨p,v',hp,by simpa using ho2.put 1 v',?_,.inl hb,hne'⟩,ht2.setCell (.inl hb) _⟩
 exact ownsRowF_touch hr (Touch.setCell (F:=fun k=>k=b) (Touch.refl _ _) (p:=⟨b,1,none⟩) (.inl rfl) _) (fun g e=>(hne' g e).2)
theorem writeByte_any (b:Nat) (F:Nat→Prop) (l:List UInt8) (c:UInt8) (w:World) (h:BldS w b F l) (hlen:l.length≤140000000000000) :
   Calls Tryz.prog 120 #[.pointer (some ⟨b,0,none⟩),.int .u8 c.toNat] w (Wrote w b F (l++[c]) .nilIface):=by
 have HC:=hid (copyCheck_any b F l w h)
 have hin:=h.inside
 have hFb:F b:=by obtain ⟨p,v,hp,ho,hr,hb,hg⟩:=h;exact hb
 go_enter Tryz.func120,Tryz.ntmps120
 go_wp2_with (go_at_call 129;refine HC.out.mono ?_)
 rintro e w1 ⟨rfl,⟨p,v,hp,ho,hr,hb,hg⟩,ht⟩
 have c0:=ho.at 0
 have c1:=ho.at 1
 simp at c0 c1
 have f1:=ho.free 1
 have HO:=hid ho
 have HG:=hid hg
 have HT:=hid ht
 have hsz:=ht.size
 clear ho hg ht
 go_wp2_with (at_builtin;refine bld_append rfl _ _ rfl _ _ _ rfl (hr.alloc _) ⟨w1.heap.size,0,none⟩ 1 1 [.int .u8 c.toNat] rfl rfl ?c1 ?c2 ?c3 ?_)
 case c1 =>
   intro j u hj
   match j,hj with
   | 0,hj=>simp at hj;subst hj;simp[Addr.add]
   | (j+1),hj=>simp at hj
 case c2=>intro u hu;simp at hu;subst hu;rfl
 case c3=>omega
 intro v' w2 hown' hgrow hwh
 have ho1:Own (w1.alloc (.cells #[.int .u8 c.toNat] 5)) b 178 #[p,v]:=HO.out.over _
 have hne:v.ownBlock≠some b:=fun e=>(HG.out b e).2 rfl
 have ho2:Own w2 b 178 #[p,v]:=(hgrow.block b ho1.inside (fun e=>hne e.symm)).trans ho1
 have d1:=ho2.at 1
 have g1:=ho2.free 1
 have d0:=ho2.at 0
 simp at d1 d0
 have HO2:=hid (bld_put w.heap.size hp hFb (Nat.le_refl _) hin ho1 (HT.out.alloc _) HG.out (l':=l++[c]) (by simpa [byteCells] using hown') hgrow (fun k hk=>(hwh k hk).imp id (fun h=>by (try simp at h);omega)))
 obtain ⟨g,cap,rfl⟩:=ownsRowF_form hown' (by omega)
 clear hwh hown' hgrow ho1 ho2 hr
 go_wp2
 go_ret
 exact ⟨rfl,HO2.out⟩
theorem writeString_any (b:Nat) (F:Nat→Prop) (l:List UInt8) (s:ByteArray) (w:World) (h:BldS w b F l) (hlen:l.length+s.size≤140000000000000) :
   Calls Tryz.prog 119 #[.pointer (some ⟨b,0,none⟩),.string s] w (Wrote w b F (l++s.data.toList) (.tuple #[.int .i64 s.size,.nilIface])):=by
 have HC:=hid (copyCheck_any b F l w h)
 have hin:=h.inside
 have hFb:F b:=by obtain ⟨p,v,hp,ho,hr,hb,hg⟩:=h;exact hb
 go_enter Tryz.func119,Tryz.ntmps119
 go_wp2_with (go_at_call 129;refine HC.out.mono ?_)
 rintro e w1 ⟨rfl,⟨p,v,hp,ho,hr,hb,hg⟩,ht⟩
 have c0:=ho.at 0
 have c1:=ho.at 1
 simp at c0 c1
 have f1:=ho.free 1
 have HO:=hid ho
 have HG:=hid hg
 have HT:=hid ht
 have hsz:=ht.size
 clear ho hg ht
 go_wp2_with (at_builtin;refine bld_append_str rfl _ _ rfl _ _ _ rfl hr s rfl ?c3 ?_)
 case c3=>omega
 intro v' w2 hown' hgrow hwh
 have ho1:=HO.out
 have hne:v.ownBlock≠some b:=fun e=>(HG.out b e).2 rfl
 have ho2:Own w2 b 178 #[p,v]:=(hgrow.block b ho1.inside (fun e=>hne e.symm)).trans ho1
 have d1:=ho2.at 1
 have g1:=ho2.free 1
 have d0:=ho2.at 0
 simp at d1 d0
 have HO2:=hid (bld_put w.heap.size hp hFb (Nat.le_refl _) hin ho1 HT.out HG.out (l':=l++s.data.toList) (by rw[byteCells_append,List.length_append];exact hown') hgrow (fun k hk=>(hwh k hk).imp id (fun h=>by omega)))
 obtain ⟨a,cap,rfl⟩:=ownsRowF_slice hown'
 clear hwh hown' hgrow ho1 ho2 hr
 go_wp2
 go_ret2
 exact ⟨rfl,HO2.out⟩
end
end Go.Proofs.YtnokhgfifbkflaaGreat
