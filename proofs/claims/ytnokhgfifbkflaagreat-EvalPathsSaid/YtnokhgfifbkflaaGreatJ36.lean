/- Lemmas. -/
import Derived.Test.YtnokhgfifbkflaaGreatProg
import Derived.Test.YtnokhgfifbkflaaGreatJ15
import Derived.Test.YtnokhgfifbkflaaGreatJ21
import Derived.Test.YtnokhgfifbkflaaGreatJ34
import Derived.Test.YtnokhgfifbkflaaGreatJ35
import Derived.Shelf.SlSortCmp.NoneTotal
set_option maxRecDepth 100000
set_option maxHeartbeats 8000000
set_option linter.unusedVariables false
set_option linter.unusedSimpArgs false
namespace Go.Proofs.YtnokhgfifbkflaaGreat
open Go.Lib (hid)
section
open Go.RowKit
theorem perm_lift {α β:Type} (f:α→β) {l l':List β} (h:l'.Perm l):∀ P:List α,P.map f=l → ∃ P':List α,P'.Perm P∧P'.map f=l':=by
 induction h with
 | nil=>intro P hP;exact ⟨P,.refl _,hP⟩
 | cons x _ ih =>
   intro P hP
   cases P with
   | nil=>cases hP
   | cons p P =>
     injection hP with h1 h2
     obtain ⟨P',g1,g2⟩:=ih P h2
     exact ⟨p :: P',g1.cons p,by rw[List.map_cons,g2,h1]⟩
 | swap x y l =>
   intro P hP
   match P,hP with
   | a :: b :: P,hP =>
     injection hP with h1 h2
     injection h2 with h2 h3
     exact ⟨b :: a :: P,.swap _ _ _,by rw[List.map_cons,List.map_cons,h1,h2,h3]⟩
 | trans _ _ ih1 ih2 =>
   intro P hP
   obtain ⟨P1,g1,g2⟩:=ih2 P hP
   obtain ⟨P2,g3,g4⟩:=ih1 P1 g2
   exact ⟨P2,g3.trans g1,g4⟩
theorem found_order {ns ns':List NdV} {l:List Nd} {Q:NdV→Nd→Prop} (hl:ns.length=l.length) (hq:∀ (i:Nat) (s:NdV) (d:Nd),ns[i]?=some s→l[i]?=some d→Q s d) (hp:ns'.Perm ns) :
   ∃ l':List Nd,l'.Perm l∧ns'.length=l'.length ∧ ∀ (i:Nat) (s:NdV) (d:Nd),ns'[i]?=some s→l'[i]?=some d→Q s d:=by
 have e1:(ns.zip l).map Prod.fst=ns:=List.map_fst_zip (Nat.le_of_eq hl)
 have e2:(ns.zip l).map Prod.snd=l:=List.map_snd_zip (Nat.le_of_eq hl.symm)
 have hall:∀ p∈ns.zip l,Q p.1 p.2:=fun p hp=>by
   obtain ⟨i,hi⟩:=List.mem_iff_getElem?.1 hp
   rw[List.getElem?_zip_eq_some] at hi
   exact hq i p.1 p.2 hi.1 hi.2
 obtain ⟨P',g1,g2⟩:=perm_lift Prod.fst hp (ns.zip l) e1
 refine ⟨P'.map Prod.snd,by rw[← e2];exact g1.map _,by rw[← g2];simp,fun i s d h1 h2 => ?_⟩
 rw[← g2,List.getElem?_map] at h1
 rw[List.getElem?_map] at h2
 cases hx:P'[i]? with
 | none=>rw[hx] at h1;cases h1
 | some p =>
   rw[hx] at h1 h2
   obtain rfl:p.1=s:=by simpa using h1
   obtain rfl:p.2=d:=by simpa using h2
   exact hall p (g1.mem_iff.1 (List.mem_of_getElem? hx))
theorem es_of {w w':World} {B B':Nat} {A:Option Addr} {m c:Nat} {ns:List NdV} {l:List Nd} (h:GRow enK w' B (.slice A m c) (ns.map enOf)) (hl:ns.length=l.length)
   (he:∀ (i:Nat) (s:NdV) (d:Nd),ns[i]?=some s→l[i]?=some d→s.x.fr=d.t.fr∧s.x.to=d.t.to∧GRow stpK w B' (.slice s.S s.n s.c) d.p) (hb:Below w.heap.size w w'):EsRd w' A m l:=by
 refine ⟨ns.map enOf,grow_rd16 h,by rw[List.length_map];exact hl,fun i s d h1 h2 => ?_⟩
 rw[List.getElem?_map] at h1
 cases hx:ns[i]? with
 | none=>rw[hx] at h1;cases h1
 | some t =>
   rw[hx] at h1
   obtain rfl:enOf t=s:=by simpa using h1
   obtain ⟨f1,f2,f3⟩:=he i t d hx h2
   exact ⟨f1,f2,(grow_rd16 f3).below hb⟩
theorem esort_all (ns:List NdV) (A:Option Addr) (n c base:Nat) (w:World) (h:GRow fndK w base (.slice A n c) ns) (hb:base≤w.heap.size) (h9:ns.length≤1000000) :
   Calls Tryz.prog 22 #[.slice A n c,.func (.func 23) #[] #[]] w fun e w'=>e=.returned (.tuple #[]) ∧
     ∃ ns':List NdV,ns'.Perm ns∧ns'.Pairwise (fun a b=>a.x.fr≤b.x.fr)∧GRow fndK w' base (.slice A n c) ns'∧Below base w w'∧w.heap.size≤w'.heap.size ∧
       ∀ (g:Nat) (cs:Array Value) (T:TypeId) (fz:Nat×Nat),w.heap[g]?=some (Obj.cells cs T fz)→T≠fndK.T→w'.heap[g]?=w.heap[g]?:=by
 cases A with
 | none =>
   have hn0:n=0∧c=0∧ns=[]:=by
     rcases h.2 with ⟨hv,h0⟩|⟨g,c',cur,hv,_⟩
     ·injection hv with _ h1 h2
      exact ⟨h1,h2,List.eq_nil_of_length_eq_zero h0⟩
     ·injection hv with h1
      cases h1
   obtain ⟨rfl,rfl,rfl⟩:=hn0
   have hcon:=AnyF.slices_SortFunc_none Tryz.laysSort none 0 (.func (.func 23) #[] #[]) w
   change Calls Tryz.prog 22 _ _ _ at hcon
   refine hcon.mono ?_
   rintro e w' ⟨rfl,rfl⟩
   exact ⟨rfl,[],.refl _,List.Pairwise.nil,h,Below.refl _ _,Nat.le_refl _,fun _ _ _ _ _ _=>rfl⟩
 | some ad =>
   obtain ⟨g,hg⟩:∃ g,ad=⟨g,0,none⟩:=by
     rcases h.2 with ⟨hv,h0⟩|⟨g,c',cur,hv,_⟩
     ·injection hv with h1
      cases h1
     ·injection hv with h1
      injection h1 with h1
      exact ⟨g,h1⟩
   subst hg
   refine (esort_any ns g n c base w h h9).mono ?_
   rintro e w' ⟨rfl,ns',g1,g2,g3,g4⟩
   have hl:=h.low (g:=g) rfl
   obtain ⟨cur,hcu⟩:=h.typed (g:=g) rfl
   exact ⟨rfl,ns',g1,g2,g3,g4.below hl.1 (Nat.le_of_lt hl.2),g4.2.2.2.1,fun g' cs T fz hc hT=>g4.2.2.2.2 g' (Array.getElem?_eq_some_iff.1 hc).1 (fun e=>typed_ne hc hcu hT e)⟩
end
section
open Go.RowKit
structure OkE (v:Tree) (q:List Sgm) (M:Nat):Prop where
 fit:∀ w,wayT v w→((atT v w).kd=5→(atT v w).names.length=(atT v w).items.length)∧(atT v w).items.length≤1000
 arm:ArmT v
 ord:OrdT v 0 M
 few:M≤1000
 len:q.length≤1000
 sel:∀ g∈q,g.sels.length≤8 ∧ ∀ y∈g.sels,RightI y
def EvEnd (l:List Nd)(W:World)(e:Ending)(w':World):Prop:=∃ A' m' c',e=.returned (.slice A' m' c')∧EsRd w' A' m' l∧Below W.heap.size W w'
theorem enodes_any (v:Tree) (x:V6) (q:List Sgm) (A:Option Addr) (n c M:Nat) (W:World) (hv:VIs W v x) (hq:QRd W A n q) (hk:OkE v q M) :
   Calls Tryz.prog 9 #[.agg #[.int .i64 x.kd,.int .i64 x.fr,.int .i64 x.to,.string ⟨x.tx.toArray⟩,.slice x.A x.n x.c,.slice x.B x.m x.d],.slice A n c] W (EvEnd (nodesT v q) W):=by
 obtain ⟨W1,hW1⟩:∃ W1,W1=W.alloc (.cells #[.int .i64 x.kd,.int .i64 x.fr,.int .i64 x.to,.string ⟨x.tx.toArray⟩,.slice x.A x.n x.c,.slice x.B x.m x.d] 29):=⟨_,rfl⟩
 have hb1:Below W.heap.size W W1:=by rw[hW1];exact below1 W _
 have KL:=hid (elook_any v x q true A n c M W1 (hv.stay hb1) (hq.stay hb1) hk.fit hk.arm hk.ord hk.few hk.len hk.sel (fun e=>by cases e))
 unfold LkEnd at KL
 have HB1:=hid hb1
 rw[hW1] at KL
 have HW1:=hid hW1
 have HOR:=hid hk.ord
 have HM:=hid hk.few
 have eg:∀ args w,(callFunc 23 args).run Tryz.prog w=.ok (.enter 23 args) w:=enters_of Tryz.func23 (by kernel_rfl) rfl
 clear hv hq hk hW1 hb1
 go_enter Tryz.func9,Tryz.ntmps9
 go_wp2_with (first
   | (go_at_call 21
      go_must (
        refine KL.out.mono ?_
        rintro e w5 ⟨u5,ns,l,rfl,hrow5,hlen,hel,hb5,_,hl⟩
        obtain ⟨A5,c5,rfl,_⟩:=hrow5.form
        have hl:=hl rfl
        rw[← HW1.out] at hb5 hrow5 hel
        have hl9:l.length≤1000:=by
          have h1:=less_few 1000 (l.map fun n=>n.t.fr) (by rw[List.pairwise_map];exact hl.2) (fun y hy=>by
            obtain ⟨m,hm,rfl⟩:=List.mem_map.1 hy
            obtain ⟨w,hw,_,rfl⟩:=mem_row.1 ((hl.1 m).1 hm)
            have h2:=ord_at w v 0 M HOR.out hw
            have h3:=(ordT_iff v 0 M).1 HOR.out
            have h4:=HM.out
            show (atT v w).fr<1000
            omega)
          rwa [List.length_map] at h1
        have KS:=hid (esort_all ns A5 ns.length c5 W1.heap.size w5 hrow5 hb5.size (by omega))
        have HD:=hid (And.intro hlen (And.intro hel (And.intro hl (And.intro hl9 hb5))))
        clear hrow5 hlen hel hb5 hl hl9))
   | (go_at_call 22
      go_must (
        refine KS.out.mono ?_
        rintro e w6 ⟨rfl,ns',hp,hs,hr6,hb6,hz6,hk6⟩
        have hlen':ns'.length=ns.length:=hp.length_eq
        obtain ⟨A6,c6,e6,_⟩:=hr6.form
        have KN:=hid (enodes_row A5 ns.length c5 ns' w6 (by have:=hr6.rd;rwa [hlen'] at this) (by have h:=HD.out.1;have h2:=HD.out.2.2.2.1;omega))
        have HS:=hid (And.intro hp (And.intro hs (And.intro hb6 (And.intro hz6 hk6))))
        clear hp hs hr6 hb6 hz6 hk6 hlen' e6))
   | (go_at_call 25
      go_must (
        refine KN.out.mono ?_
        rintro e w7 ⟨u7,rfl,hr7,hb7⟩
        obtain ⟨A7,c7,rfl,_⟩:=hr7.form
        have HE:=hid (show EvEnd (nodesT v q) W (.returned (.slice A7 (ns'.map enOf).length c7)) w7 from by
          obtain ⟨h1,h2,h3,h4,h5⟩:=HD.out
          obtain ⟨p1,p2,p3,p4,p5⟩:=HS.out
          have hq:∀ (i:Nat) (s:NdV) (d:Nd),ns[i]?=some s→l[i]?=some d→s.x.fr=d.t.fr∧s.x.to=d.t.to∧GRow stpK w6 W1.heap.size (.slice s.S s.n s.c) d.p:=fun i s d e1 e2 =>
            ⟨(vis_fr (h2 i s d e1 e2).1).1,(vis_fr (h2 i s d e1 e2).1).2.1,(h2 i s d e1 e2).2.move fun g cs fz hc=>p5 g cs _ fz hc (by decide)⟩
          obtain ⟨l',q1,q2,q3⟩:=found_order h1 hq p1
          have hso:l'.Pairwise fun a b=>a.t.fr≤b.t.fr:=by
            rw[List.pairwise_iff_getElem]
            intro i j hi hj hij
            have hi':i<ns'.length:=by omega
            have hj':j<ns'.length:=by omega
            have g1:=(List.pairwise_iff_getElem.1 p2) i j hi' hj' hij
            have g2:=(q3 i _ _ (List.getElem?_eq_getElem hi') (List.getElem?_eq_getElem hi)).1
            have g3:=(q3 j _ _ (List.getElem?_eq_getElem hj') (List.getElem?_eq_getElem hj)).1
            omega
          have hnd:=once_sorted HOR.out h3.1 h3.2 q1 hso
          refine ⟨_,_,_,rfl,?_,HB1.out.trans ((h5.trans ((p3.mono (Nat.le_refl _)).trans (hb7.mono ?_))).mono HB1.out.size)⟩
          ·rw[← hnd]
           exact es_of hr7 q2 q3 hb7
          ·exact Nat.le_trans h5.size p4)
        clear hr7 hb7)))
 go_ret
 have hE:=HE.out
 rw[List.length_map] at hE
 exact hE
end
section
open Go.RowKit
mutual
def cnT:Tree→Nat
 | .mk _ _ _ _ items _=>1+cnL items
def cnL:List Tree→Nat
 | []=>0
 | t :: ts=>cnT t+cnL ts
end
mutual
def NamT:Tree→Prop
 | .mk kd _ _ _ items names=>(kd=5→names.length=items.length)∧NamL items
def NamL:List Tree→Prop
 | []=>True
 | t :: ts=>NamT t∧NamL ts
end
theorem nam_mem:∀ {ts:List Tree} {t:Tree},NamL ts→t∈ts→NamT t
 | u :: ts,t,h,hm=>by
   rcases List.mem_cons.1 hm with rfl|hm
   ·exact h.1
   ·exact nam_mem h.2 hm
theorem cn_pos (t:Tree):1≤cnT t:=by
 cases t
 unfold cnT
 omega
theorem cn_mem:∀ {ts:List Tree} {t:Tree},t∈ts→cnT t≤cnL ts
 | u :: ts,t,hm=>by
   unfold cnL
   rcases List.mem_cons.1 hm with rfl|hm
   ·omega
   ·have:=cn_mem hm;omega
theorem cn_len:∀ ts:List Tree,ts.length≤cnL ts
 | []=>by simp
 | t :: ts=>by
   have:=cn_len ts
   have:=cn_pos t
   rw[List.length_cons,cnL]
   omega
theorem cn_items (t:Tree):cnT t=1+cnL t.items:=by cases t;rfl
theorem nam_items {t:Tree} (h:NamT t):(t.kd=5→t.names.length=t.items.length)∧NamL t.items:=by
 cases t
 exact h
end
section
open Go.RowKit
theorem nam_at:∀ (w:List Nat) (v:Tree),NamT v→wayT v w→NamT (atT v w)∧cnT (atT v w)≤cnT v
 | [],v,h,_=>⟨h,Nat.le_refl _⟩
 | i :: w,v,h,hw=>by
   have hm:itmT v i∈v.items:=List.mem_of_getElem? (items_getD v hw.1)
   obtain ⟨a,b⟩:=nam_at w (itmT v i) (nam_mem (nam_items h).2 hm) hw.2
   have h1:=cn_mem hm
   have h2:=cn_items v
   exact ⟨a,by show cnT (atT (itmT v i) w)≤cnT v;omega⟩
end
section
open Go.RowKit
def OkQ (q:List Sgm):Prop:=q.length≤8 ∧ ∀ g∈q,g.sels.length≤8 ∧ ∀ y∈g.sels,RightI y
def GivEnd (X:Tree→Prop) (q:List Sgm) (W:World) (e:Ending) (w':World):Prop :=
 ∃ (k:Int) (f t:Nat) (x:List UInt8) (A:Option Addr) (n c:Nat) (B:Option Addr) (m d:Nat) (ok:Bool),e=.returned (.tuple #[.agg #[.int .i64 k,.int .i64 f,.int .i64 t,.string ⟨x.toArray⟩,.slice A n c,.slice B m d],.bool ok]) ∧
   (ok=true → ∃ v,VIs w' v ⟨k,f,t,x,A,n,c,B,m,d⟩∧NamT v∧cnT v≤1000∧OkQ q∧X v)∧Below W.heap.size W w'
end
section
open Go.RowKit
theorem okE_of {v:Tree} {q:List Sgm} (hN:NamT v) (hc:cnT v≤1000) (ha:ArmT v) (ho:OrdT v 0 1000) (hq:OkQ q):OkE v q 1000 where
 fit:=fun w hw=>by
   obtain ⟨h1,h2⟩:=nam_at w v hN hw
   have h3:=cn_items (atT v w)
   have h4:=cn_len (atT v w).items
   exact ⟨(nam_items h1).1,by omega⟩
 arm:=ha
 ord:=ho
 few:=Nat.le_refl _
 len:=Nat.le_trans hq.1 (by decide)
 sel:=hq.2
theorem rdp_of {w:World} {A:Option Addr} {m:Nat} {l:List Pst} (h:RdG stpK w A m l):RdP w A m l:=by
 refine ⟨h.1,fun hm => ?_⟩
 obtain ⟨b,o,e,hb,_⟩:=h.2 hm
 refine ⟨⟨b,o,none⟩,e,hb,fun i s hs => ?_⟩
 have c:=fun j u (hu:(stpK.enc s)[j]?=some u)=>h.at e hs (j:=j) (u:=u) hu
 have e0:(⟨b,o,none⟩:Addr).add (i*3)=⟨b,o+i*3,none⟩:=add_none _ _ _
 rw[e0]
 exact ⟨c 0 _ rfl,by rw[Nat.add_assoc];exact c 1 _ rfl,by rw[Nat.add_assoc];exact c 2 _ rfl⟩
end
section
open Go.RowKit
def BgQ (xs:List Sgm):Prop:=xs.length≤1000 ∧ ∀ x∈xs,x.sels.length≤140737488355327 ∧ ∀ y∈x.sels,y.name.size≤maxLen
def okG (x:Sgm):Bool:=!x.sels.isEmpty&&x.sels.all goodB
theorem rightQ_is (xs:List Sgm):rightQ xs=xs.all okG:=rfl
theorem all_no {α:Type} {p:α→Bool} {l:List α} {k:Nat} (hk:k<l.length) (h:p l[k]=false):l.all p=false:=by
 cases ha:l.all p with
 | false=>rfl
 | true=>rw[List.all_eq_true.1 ha _ (List.getElem_mem hk)] at h;cases h
theorem all_snoc {α:Type} {p:α→Bool} {l:List α} {k:Nat} (hk:k<l.length) (h1:(l.take k).all p=true) (h2:p l[k]=true):(l.take (k+1)).all p=true:=by
 rw[List.take_succ_eq_append_getElem hk,List.all_append,h1]
 simp[h2]
def RelRt (W:World)(xs:List Sgm)(i:Value)(wr:World):Prop:=∃ k:Nat,k≤xs.length∧i=.int .i64 k∧(xs.take k).all okG=true∧Below W.heap.size W wr
def RelRs (W:World)(ys:List Sel)(i:Value)(wr:World):Prop:=∃ k:Nat,k≤ys.length∧i=.int .i64 k∧(ys.take k).all goodB=true∧Below W.heap.size W wr
theorem right15_big (xs:List Sgm) (A:Option Addr) (n c:Nat) (W:World) (hx:QRd W A n xs) (hs:BgQ xs) :
   Calls Tryz.prog 19 #[.slice A n c] W fun e w'=>e=.returned (.bool (rightQ xs))∧Below W.heap.size W w':=by
 rw[rightQ_is]
 have hl:xs.length=n:=hx.1
 have h9:=hs.1
 have HX:=hid hx
 have HS:=hid hs.2
 clear hx hs
 go_enter Tryz.func19,Tryz.ntmps19
 go_wp2
 go_loopw [9] (fun i wr=>RelRt W xs i wr) (fun i _=>xs.length-(intOf i).toNat)
 case atStart=>exact ⟨0,Nat.zero_le _,rfl,rfl,Below.refl _ _⟩
 case round =>
   obtain ⟨k,hk,rfl,ht,hb⟩:=hrel
   by_cases hlt:k<xs.length
   rotate_left
   ·have q2:¬ (k:Int)<n:=by omega
    have HE:=hid (show xs.all okG=true by rw[← ht,List.take_of_length_le (by omega)])
    clear ht
    go_wp2
    go_ret
    exact ⟨ret_b HE.out.symm,hb⟩
   have q2:(k:Int)<n:=by omega
   have hk9:(k:Int)≤1000:=by omega
   have hX:=HX.out.stay hb
   obtain ⟨a,rfl,ha,hc⟩:=hX.2 (by omega)
   obtain ⟨B,m,cc,s0,s1,sr⟩:=hc k xs[k] (List.getElem?_eq_getElem hlt)
   obtain ⟨m9,z9⟩:=HS.out _ (List.getElem_mem hlt)
   have HNO:=hid (fun h=>all_no (p:=okG) hlt h)
   have HON:=hid (fun h=>all_snoc (p:=okG) hlt ht h)
   clear hX hc ht
   generalize xs[k]=x at *
   have hm:x.sels.length=m:=sr.1
   have Z9:=hid z9
   have SR:=hid sr
   have HB:=hid hb
   by_cases hm0:m=0
   ·have g0:((m:Int)==0)=true:=by rw[hm0];rfl
    have HF:=hid (HNO.out (show okG x=false by
      unfold okG
      rw[List.eq_nil_of_length_eq_zero (hm.trans hm0)]
      rfl))
    have HB1:=hid (fun o=>hb.alloc hb.size o)
    clear sr z9 hb HON HNO
    go_wp2
    go_ret
    exact ⟨ret_b HF.out.symm,HB1.out _⟩
   have g0:((m:Int)==0)=false:=beq_eq_false_iff_ne.2 (by omega)
   clear sr z9 hb
   obtain ⟨wo,hwo⟩:∃ wo,wo=wr:=⟨wr,rfl⟩
   subst hwo
   go_wp2
   go_loopw [20] (fun j w=>RelRs wo x.sels j w) (fun j _=>x.sels.length-(intOf j).toNat)
   case atStart=>exact ⟨0,Nat.zero_le _,rfl,rfl,below1 _ _⟩
   case round =>
     obtain ⟨j,hj,rfl,htj,hbj⟩:=hrel
     have HB8:=hid (HB.out.trans (hbj.mono HB.out.size))
     by_cases hjl:j<x.sels.length
     rotate_left
     ·have q3:¬ (j:Int)<m:=by omega
      have HG:=hid (HON.out (show okG x=true by
        unfold okG
        rw[← List.take_of_length_le (l:=x.sels) (i:=j) (by omega),htj]
        rw[List.take_of_length_le (by omega)]
        cases hx:x.sels with
        | nil=>rw[hx] at hm;exact absurd hm.symm hm0
        | cons p q=>rfl))
      clear htj
      go_wp2
      go_roundw
      case rel=>exact ⟨k+1,hlt,by go_num,HG.out,HB8.out⟩
      case measure=>simp[intOf];omega
     have q3:(j:Int)<m:=by omega
     have hj9:(j:Int)≤140737488355327:=by omega
     have hSj:=SR.out.stay hbj
     obtain ⟨b2,rfl,hb2',d2⟩:=hSj.2 (by omega)
     obtain ⟨w0,w1,w2,w3,w4,w5,w6,w7⟩:=d2 j x.sels[j] (List.getElem?_eq_getElem hjl)
     have hy9:=Z9.out _ (List.getElem_mem hjl)
     have HJ:=hid (fun h=>all_snoc (p:=goodB) hjl htj h)
     have HJN:=hid (fun h=>HNO.out (show okG x=false by unfold okG;rw[all_no (p:=goodB) hjl h,Bool.and_false]))
     have HBA:=hid (fun o=>hbj.alloc hbj.size o)
     clear hSj d2 htj hbj
     generalize x.sels[j]=y at *
     have KG:=hid (fun w=>good15_any y w hy9)
     cases hg:goodB y
     ·rw[hg] at KG
      have HF:=hid (HJN.out hg)
      clear hg HJ HJN
      go_wp2_with (go_at_call 40;refine (KG.out _).mono ?_;rintro e w9 ⟨rfl,hb9⟩;have HB9:=hid (HB.out.trans (((HBA.out _).trans (hb9.mono (HBA.out _).size)).mono HB.out.size));clear hb9)
      go_ret
      exact ⟨ret_b HF.out.symm,HB9.out⟩
     ·rw[hg] at KG
      have HG:=hid (HJ.out hg)
      clear hg HJ HJN
      go_wp2_with (go_at_call 40;refine (KG.out _).mono ?_;rintro e w9 ⟨rfl,hb9⟩;have HB9:=hid ((HBA.out _).trans (hb9.mono (HBA.out _).size));clear hb9)
      go_roundw
      case rel=>exact ⟨j+1,hjl,by go_num,HG.out,HB9.out⟩
      case measure=>simp[intOf];omega
end
section
open Go.RowKit
mutual
def KidT:Tree→Prop
 | .mk kd fr td tx items names=>((kd=4∧items.length≤9007199254740991)∨(kd=5∧names.length=items.length ∧ ∀ s∈names,badU s = -1)∨items=[])∧KidL items
def KidL:List Tree→Prop
 | []=>True
 | t :: ts=>KidT t∧KidL ts
end
end
section
open Go.RowKit
theorem fixI_good (n:Int):badU (ofB (fixI n)) = -1:=by
 unfold fixI
 split
 ·rename_i h
  unfold hasI at h
  simp at h
  exact bad_ofB n (by omega) (by omega) (by omega)
 ·exact bad_ofB 65533 (by decide) (by decide) (by decide)
theorem sigR_valid (l:List UInt8):∀ (sg lf:Int) (p:List UInt8) (k:Nat),(sigR sg lf l k).2.2=true→Reach p sg lf→badU (p++l.take ((sigR sg lf l k).1-k)) = -1:=by
 induction l with
 | nil=>intro sg lf p k h;exact absurd h (by show ¬ false=true;decide)
 | cons c t ih =>
   intro sg lf p k h hr
   have hs:=((sigR_bd (c :: t) sg lf k).2.2 h).1
   have e:(sigR sg lf (c :: t) k).1-k=((sigR sg lf (c :: t) k).1-(k+1))+1:=by omega
   rw[e,List.take_succ_cons,show ∀ y,p++c :: y=(p++[c])++y from fun y=>by simp]
   unfold sigR at h ⊢
   split at h
   ·rename_i hok
    have hr':=reach_step hr hok
    rw[if_pos hok]
    split at h
    ·rename_i hz
     rw[if_pos hz]
     rw[hz] at hr'
     show badU ((p++[c])++t.take (k+1-(k+1))) = -1
     rw[show k+1-(k+1)=0 by omega,List.take_zero,List.append_nil]
     exact reach_whole hr'
    ·rename_i hz
     rw[if_neg hz]
     exact ih _ _ (p++[c]) _ h hr'
   ·exact absurd h (by show ¬ false=true;decide)
theorem letR_small (c:UInt8):(letR c).toNat<128:=by
 unfold letR
 (repeat' split)<;>decide
theorem pieceX_valid (l:List UInt8) (h:(pieceX l).2.2.2=true):badU (pieceX l).1 = -1:=by
 revert h
 unfold pieceX
 split
 ·exact fun _=>rfl
 split
 ·intro h
  have h:(sigR 0 0 l 0).2.2=true:=h
  have:=sigR_valid l 0 0 [] 0 h reach_nil
  show badU (if _ then _ else _) = -1
  rw[if_pos h]
  simpa using this
 split
 ·exact fun _=>rfl
 split
 ·split
  ·exact fun _=>rfl
  ·exact fun _=>bad_one _ (letR_small _)
 split
 ·exact fun _=>rfl
 split
 ·exact fun _=>fixI_good _
 split
 ·exact fun _=>rfl
 ·exact fun _=>fixI_good _
theorem scanR_valid (f:Nat):∀ l:List UInt8,badU (scanR f l).1 = -1:=by
 induction f with
 | zero=>intro l;rfl
 | succ f ih =>
   intro l
   unfold scanR
   split
   ·rfl
   split
   ·rfl
   split
   ·rfl
   ·rename_i h
    have hw:(pieceX l).2.2.2=true:=by
      cases hh:(pieceX l).2.2.2
      ·exact absurd (.inr hh) h
      ·rfl
    exact bad_cat (pieceX_valid l hw) (ih _)
theorem scanR_small (f:Nat):∀ l:List UInt8,(scanR f l).1.length≤(scanR f l).2.1:=by
 induction f with
 | zero=>intro l;exact Nat.zero_le _
 | succ f ih =>
   intro l
   unfold scanR
   split
   ·exact Nat.zero_le _
   split
   ·exact Nat.zero_le _
   split
   ·exact Nat.zero_le _
   ·rename_i hl _ h
    have hw:(pieceX l).2.2.2=true:=by
      cases hh:(pieceX l).2.2.2
      ·exact absurd (.inr hh) h
      ·rfl
    obtain ⟨p3,p4,_⟩:=(pieceX_bd l (List.length_pos_iff.2 hl)).2 hw
    have h3:(pieceX l).1.length≤(pieceX l).2.1:=by omega
    show ((pieceX l).1++_).length≤(pieceX l).2.1+_
    rw[List.length_append]
    have:=ih (l.drop (pieceX l).2.1)
    omega
theorem quotedR_small (l:List UInt8) (k:Nat) (h:(quotedR l k).fault=0):k+1+(quotedR l k).val.tx.length≤(quotedR l k).pt:=by
 unfold quotedR at h ⊢
 split at h
 ·exact absurd h (show ¬ (10:Int)=0 by decide)
 ·split at h
  ·rename_i h1 h2
   exact absurd h h1
  ·rename_i h1 h2
   rw[if_neg h1,if_neg h2]
   show k+1+(scanL (l.drop (k+1))).1.length≤k+1+(scanL (l.drop (k+1))).2.1
   have:=scanR_small (l.drop (k+1)).length (l.drop (k+1))
   unfold scanL
   omega
theorem nameR_small {l:List UInt8} {k:Nat} {nm:List UInt8} {v:Nat} {r:Int×Nat} (h:nameR10 l k=(some (nm,v),r)):k+1+nm.length≤v:=by
 unfold nameR10 at h
 split at h
 ·cases h
 split at h
 ·cases h
 split at h
 ·cases h
 split at h
 ·cases h
 split at h
 ·cases h
 split at h
 ·cases h
 ·rename_i h1 _ h2 h3 _ h4
  have hf:=Classical.not_not.1 (by assumption:¬ (quotedR l k).fault≠0)
  have hq:=quotedR_small l k hf
  have e:nm=(quotedR l k).val.tx:=by cases h;rfl
  have e2:v=blankR l (blankR l (quotedR l k).pt+1):=by cases h;rfl
  have b1:(quotedR l k).pt≤blankR l (quotedR l k).pt:=Nat.le_add_right _ _
  have b2:blankR l (quotedR l k).pt+1≤blankR l (blankR l (quotedR l k).pt+1):=Nat.le_add_right _ _
  rw[e,e2]
  omega
mutual
def wtT:Tree→Nat
 | .mk _ _ _ _ items names=>1+(names.map fun s=>s.length+1).sum+wtL items
def wtL:List Tree→Nat
 | []=>0
 | t :: ts=>wtT t+wtL ts
end
theorem wtL_snoc (y:Tree):∀ ts:List Tree,wtL (ts++[y])=wtL ts+wtT y
 | []=>by show wtT y+0=0+wtT y;omega
 | t :: ts=>by
   show wtT t+wtL (ts++[y])=wtT t+wtL ts+wtT y
   rw[wtL_snoc y ts]
   omega
theorem quotedR_valid (l:List UInt8) (k:Nat):badU (quotedR l k).val.tx = -1:=by
 unfold quotedR
 split
 ·rfl
 split
 ·rfl
 ·exact scanR_valid _ _
theorem nameR_valid {l:List UInt8} {k:Nat} {nm:List UInt8} {v:Nat} {r:Int×Nat} (h:nameR10 l k=(some (nm,v),r)):badU nm = -1:=by
 unfold nameR10 at h
 split at h
 ·cases h
 split at h
 ·cases h
 split at h
 ·cases h
 split at h
 ·cases h
 split at h
 ·cases h
 split at h
 ·cases h
 ·have e:nm=(quotedR l k).val.tx:=by cases h;rfl
  rw[e]
  exact quotedR_valid l k
theorem ordT_mono {t:Tree} {i j m:Nat} (h:OrdT t i j) (hm:j≤m):OrdT t i m:=by
 obtain ⟨h1,h2,h3,h4⟩:=(ordT_iff _ _ _).1 h
 exact (ordT_iff _ _ _).2 ⟨h1,h2,by omega,h4⟩
theorem ordL_mono:∀ {ts:List Tree} {i j m:Nat},OrdL ts i j→j≤m→OrdL ts i m
 | [],i,j,m,_,_=>by unfold OrdL;trivial
 | t :: ts,i,j,m,h,hm=>by
   unfold OrdL at h ⊢
   exact ⟨ordT_mono h.1 hm,ordL_mono h.2 hm⟩
theorem ordL_snoc {y:Tree} {m:Nat}:∀ {ts:List Tree} {i j:Nat},OrdL ts i j→i≤j→OrdT y j m→j≤m→OrdL (ts++[y]) i m
 | [],i,j,_,hij,hy,hm=>by
   obtain ⟨h1,h2,h3,h4⟩:=(ordT_iff _ _ _).1 hy
   show OrdL [y] i m
   unfold OrdL
   exact ⟨(ordT_iff _ _ _).2 ⟨by omega,h2,h3,h4⟩,by unfold OrdL;trivial⟩
 | t :: ts,i,j,h,hij,hy,hm=>by
   unfold OrdL at h
   show OrdL (t :: (ts++[y])) i m
   unfold OrdL
   exact ⟨ordT_mono h.1 hm,ordL_snoc h.2 ((ordT_iff _ _ _).1 h.1).2.2.1 hy hm⟩
theorem armL_snoc {y:Tree}:∀ {ts:List Tree},ArmL ts→ArmT y→ArmL (ts++[y])
 | [],_,hy=>by show ArmL [y];unfold ArmL;exact ⟨hy,by unfold ArmL;trivial⟩
 | t :: ts,h,hy=>by
   unfold ArmL at h
   show ArmL (t :: (ts++[y]))
   unfold ArmL
   exact ⟨h.1,armL_snoc h.2 hy⟩
theorem namL_snoc {y:Tree}:∀ {ts:List Tree},NamL ts→NamT y→NamL (ts++[y])
 | [],_,hy=>by show NamL [y];unfold NamL;exact ⟨hy,by unfold NamL;trivial⟩
 | t :: ts,h,hy=>by
   unfold NamL at h
   show NamL (t :: (ts++[y]))
   unfold NamL
   exact ⟨h.1,namL_snoc h.2 hy⟩
theorem kidL_snoc {y:Tree}:∀ {ts:List Tree},KidL ts→KidT y→KidL (ts++[y])
 | [],_,hy=>by show KidL [y];unfold KidL;exact ⟨hy,by unfold KidL;trivial⟩
 | t :: ts,h,hy=>by
   unfold KidL at h
   show KidL (t :: (ts++[y]))
   unfold KidL
   exact ⟨h.1,kidL_snoc h.2 hy⟩
theorem cnL_snoc (y:Tree):∀ ts:List Tree,cnL (ts++[y])=cnL ts+cnT y
 | []=>by show cnT y+0=0+cnT y;omega
 | t :: ts=>by
   show cnT t+cnL (ts++[y])=cnT t+cnL ts+cnT y
   rw[cnL_snoc y ts]
   omega
structure Stood (t:Tree) (k e:Nat):Prop where
 fr:t.fr=k
 to':t.to=e
 lt:k<e
 ord:OrdT t k e
 arm:ArmT t
 nam:NamT t
 kid:KidT t
 cnt:cnT t≤e-k
 wgt:wtT t≤e-k
structure Stand (fr k:Nat) (ts:List Tree):Prop where
 ord:OrdL ts (fr+1) k
 arm:ArmL ts
 nam:NamL ts
 kid:KidL ts
 cnt:cnL ts≤k-(fr+1)
 wgt:wtL ts≤k-(fr+1)
theorem Stand.nil (fr k:Nat):Stand fr k []:=⟨by unfold OrdL;trivial,by unfold ArmL;trivial,by unfold NamL;trivial,by unfold KidL;trivial,Nat.zero_le _,Nat.zero_le _⟩
theorem Stand.mono {fr k m:Nat}{ts:List Tree}(h:Stand fr k ts)(hm:k≤m):Stand fr m ts:=⟨ordL_mono h.ord hm,h.arm,h.nam,h.kid,by have:=h.cnt;omega,by have:=h.wgt;omega⟩
theorem Stand.snoc {fr k e:Nat} {ts:List Tree} {t:Tree} (h:Stand fr k ts) (hk:fr+1≤k) (g:Stood t k e):Stand fr e (ts++[t]):=by
 have h1:=h.cnt
 have h2:=g.cnt
 have h3:=g.lt
 have h4:=h.wgt
 have h5:=g.wgt
 exact ⟨ordL_snoc h.ord hk g.ord (by omega),armL_snoc h.arm g.arm,namL_snoc h.nam g.nam,kidL_snoc h.kid g.kid,by rw[cnL_snoc];omega,by rw[wtL_snoc];omega⟩
theorem Stood.leaf (kd:Int) (k e:Nat) (tx:List UInt8) (h:k<e):Stood (.mk kd k e tx [] []) k e where
 fr:=rfl
 to':=rfl
 lt:=h
 ord:=by unfold OrdT;exact ⟨Nat.le_refl _,h,Nat.le_refl _,by unfold OrdL;trivial⟩
 arm:=by unfold ArmT;exact ⟨.inl rfl,by unfold ArmL;trivial⟩
 nam:=by unfold NamT;exact ⟨fun _=>rfl,by unfold NamL;trivial⟩
 kid:=by unfold KidT;exact ⟨.inr (.inr rfl),by unfold KidL;trivial⟩
 cnt:=by show 1+0≤e-k;omega
 wgt:=by show 1+0+0≤e-k;omega
theorem Stand.arr {fr k e:Nat} {ts:List Tree} (h:Stand fr k ts) (hk:fr+1≤k) (he:k<e) (hl:e≤1000000):Stood (.mk 4 fr e [] ts []) fr e where
 fr:=rfl
 to':=rfl
 lt:=by omega
 ord:=by unfold OrdT;exact ⟨Nat.le_refl _,by omega,Nat.le_refl _,ordL_mono h.ord (by omega)⟩
 arm:=by unfold ArmT;exact ⟨.inr (.inl rfl),h.arm⟩
 nam:=by unfold NamT;exact ⟨(fun e=>by cases e),h.nam⟩
 kid:=by
   unfold KidT
   exact ⟨.inl ⟨rfl,by have:=h.cnt;have:=cn_len ts;omega⟩,h.kid⟩
 cnt:=by show 1+cnL ts≤e-fr;have:=h.cnt;omega
 wgt:=by show 1+0+wtL ts≤e-fr;have:=h.wgt;omega
theorem Stand.obj {fr k e:Nat} {ts:List Tree} {ns:List (List UInt8)} (hw:(ns.map fun s=>s.length+1).sum+wtL ts≤k-(fr+1)) (h:Stand fr k ts) (hk:fr+1≤k) (he:k<e) (hn:ns.length=ts.length) (hb:∀ s∈ns,badU s = -1):Stood (.mk 5 fr e [] ts ns) fr e where
 fr:=rfl
 to':=rfl
 lt:=by omega
 ord:=by unfold OrdT;exact ⟨Nat.le_refl _,by omega,Nat.le_refl _,ordL_mono h.ord (by omega)⟩
 arm:=by unfold ArmT;exact ⟨.inr (.inr rfl),h.arm⟩
 nam:=by unfold NamT;exact ⟨fun _=>hn,h.nam⟩
 kid:=by
   unfold KidT
   exact ⟨.inr (.inl ⟨rfl,hn,hb⟩),h.kid⟩
 cnt:=by show 1+cnL ts≤e-fr;have:=h.cnt;omega
 wgt:=by show 1+(ns.map fun s=>s.length+1).sum+wtL ts≤e-fr;omega
def OrdP (k:Nat)(p:PartR):Prop:=p.fault=0→Stood p.val k p.pt
theorem OrdP.brk {k:Nat}{kd:Int}{fr:Nat}{ts:List Tree}{ns:List (List UInt8)}{f:Int}{pt:Nat}(hf:f≠0):OrdP k (brkR10 kd fr ts ns f pt):=fun e=>absurd e hf
theorem quotedR_ord (l:List UInt8) (k:Nat):OrdP k (quotedR l k):=by
 unfold quotedR
 split
 ·exact .brk (by decide)
 ·split
  ·rename_i h1 h2
   exact .brk h1
  ·intro _
   exact .leaf _ _ _ _ (by show k<k+1+_;omega)
theorem numW_none (l:List UInt8) (a:Int) (k:Nat) (h:(numW a l k).1=k):(numW a l k).2.2=a:=by
 cases l with
 | nil=>rfl
 | cons c t =>
   unfold numW at h ⊢
   split at h
   ·have:=numW_bd t (nxI a c.toNat) (k+1)
    omega
   ·rename_i hn
    rw[if_neg hn]
theorem numberR_ord (l:List UInt8) (cl:Bool) (k:Nat):OrdP k (numberR l cl k):=by
 have hz:=numW_none (l.drop k) 0 0
 unfold numberR
 split
 ·exact .brk (by decide)
 ·split
  ·exact .brk (by decide)
  ·rename_i h1 h2
   have h0:(numW 0 (l.drop k) 0).1≠0:=fun e=>h2 (.inr (by rw[hz e];rfl))
   intro _
   exact .leaf _ _ _ _ (by show k<k+_;omega)
theorem wordR_ord (l:List UInt8) (k:Nat):OrdP k (wordR l k):=by
 unfold wordR
 split
 ·exact .brk (by decide)
 ·split
  ·exact .brk (by decide)
  ·intro _
   exact .leaf _ _ _ _ (by show k<k+_+1;omega)
section
variable {l:List UInt8} {sm:Nat→PartR}
theorem arrGo_ord (hl:l.length≤100000) (hsm:∀ k,k<l.length→PBd l.length k (sm k)) (hok:∀ k,k<l.length→OrdP k (sm k)) (fr:Nat):∀ (f k:Nat) (items:List Tree),fr+1≤k→k≤l.length→Stand fr k items→OrdP fr (arrGo l sm fr f k items)
 | 0,k,items,_,_,_=>.brk (by decide)
 | f + 1, k, items,h1,h2,h3=>by
   unfold arrGo
   split
   ·exact .brk (by decide)
   ·rename_i hk
    have hb:=hsm k (by omega)
    split
    ·rename_i h;exact .brk h
    ·rename_i h
     have h0:(sm k).fault=0:=Classical.not_not.1 h
     obtain ⟨hk2,hbeg⟩:=hb.2 h0
     have o:=hok k (by omega) h0
     have o2:=o.lt
     have hbl:=blankR_le l (sm k).pt hb.1
     have hb1:=hb.1
     rw[if_pos hbeg]
     have hL:=h3.snoc h1 o
     split
     ·exact .brk (by decide)
     ·rename_i hlt
      split
      ·intro _
       exact hL.arr (by omega) (by show (sm k).pt<blankR l (sm k).pt+1;omega) (by show blankR l (sm k).pt+1≤1000000;omega)
      ·split
       ·exact .brk (by decide)
       ·have hbl2:=blankR_le l (blankR l (sm k).pt+1) (by omega)
        exact arrGo_ord hl hsm hok fr f _ _ (by omega) (by omega) (hL.mono (by omega))
theorem arrR_ord (hl:l.length≤100000) (hsm:∀ k,k<l.length→PBd l.length k (sm k)) (hok:∀ k,k<l.length→OrdP k (sm k)) (k:Nat) (hk:k<l.length):OrdP k (arrR l sm k):=by
 have hbl:=blankR_le l (k+1) (by omega)
 unfold arrR
 split
 ·rename_i h
  intro _
  exact (Stand.nil k (blankR l (k+1))).arr hbl.1 (Nat.lt_succ_self _) (by show blankR l (k+1)+1≤1000000;omega)
 ·exact arrGo_ord hl hsm hok k _ _ [] hbl.1 hbl.2 (.nil _ _)
theorem objGo_ord (hl:l.length≤100000) (hsm:∀ k,k<l.length→PBd l.length k (sm k)) (hok:∀ k,k<l.length→OrdP k (sm k)) (fr:Nat):∀ (f k:Nat) (items:List Tree) (names:List (List UInt8)),fr+1≤k→k≤l.length→Stand fr k items →
   names.length=items.length→(∀ s∈names,badU s = -1)→(names.map fun s=>s.length+1).sum+wtL items≤k-(fr+1)→OrdP fr (objGo l sm fr f k items names)
 | 0,k,items,names,_,_,_,_,_,_=>.brk (by decide)
 | f + 1, k, items,names,h1,h2,h3,h5,h6,h7=>by
   have hn:=nameR_bd l k
   unfold objGo
   rcases hr:nameR10 l k with ⟨_|⟨nm,v⟩,r⟩
   ·exact .brk (hn.1 r.1 r.2 hr).1
   ·obtain ⟨hk,hkv⟩:=hn.2 nm v r hr
    have hnl:=nameR_valid hr
    have hns:=nameR_small hr
    show OrdP fr (if (sm v).fault≠0 then _ else _)
    have hb:=hsm v hkv
    split
    ·rename_i h;exact .brk h
    ·rename_i h
     have h0:(sm v).fault=0:=Classical.not_not.1 h
     obtain ⟨hk2,hbeg⟩:=hb.2 h0
     have o:=hok v hkv h0
     have o2:=o.lt
     have hbl:=blankR_le l (sm v).pt hb.1
     have hb1:=hb.1
     rw[if_pos hbeg,if_pos hbeg]
     have hL:=(h3.mono (Nat.le_of_lt hk)).snoc (by omega) o
     have hN:(names++[nm]).length=(items++[(sm v).val]).length:=by simp[h5]
     have hS:∀ s∈names++[nm],badU s = -1:=fun s hs=>by
       rcases List.mem_append.1 hs with hs|hs
       ·exact h6 s hs
       ·rw[List.mem_singleton.1 hs];exact hnl
     have hW:((names++[nm]).map fun s=>s.length+1).sum+wtL (items++[(sm v).val])≤(sm v).pt-(fr+1):=by
       rw[List.map_append,List.sum_append,wtL_snoc]
       have:=o.wgt
       simp only [List.map_cons,List.map_nil,List.sum_cons,List.sum_nil]
       omega
     split
     ·exact .brk (by decide)
     ·split
      ·intro _
       exact hL.obj hW (by omega) (by show (sm v).pt<blankR l (sm v).pt+1;omega) hN hS
      ·split
       ·exact .brk (by decide)
       ·have hbl2:=blankR_le l (blankR l (sm v).pt+1) (by omega)
        exact objGo_ord hl hsm hok fr f _ _ _ (by omega) (by omega) (hL.mono (by omega)) hN hS (by omega)
theorem objR_ord (hl:l.length≤100000) (hsm:∀ k,k<l.length→PBd l.length k (sm k)) (hok:∀ k,k<l.length→OrdP k (sm k)) (k:Nat) (hk:k<l.length):OrdP k (objR l sm k):=by
 have hbl:=blankR_le l (k+1) (by omega)
 unfold objR
 split
 ·rename_i h
  intro _
  exact (Stand.nil k (blankR l (k+1))).obj (Nat.zero_le _) hbl.1 (Nat.lt_succ_self _) rfl (fun s h=>by cases h)
 ·exact objGo_ord hl hsm hok k _ _ [] [] hbl.1 hbl.2 (.nil _ _) rfl (fun s h=>by cases h) (Nat.zero_le _)
end
theorem someR_ord (l:List UInt8) (hl:l.length≤100000) (cl:Bool):∀ (n k:Nat),k<l.length→OrdP k (someR l cl n k)
 | 0, k,hk=>by
   unfold someR
   split
   ·exact quotedR_ord l k
   split
   ·exact numberR_ord l cl k
   split
   ·exact wordR_ord l k
   ·intro e
    exfalso
    revert e
    show ¬ (if _ then (12:Int) else 8)=0
    split<;>decide
 | n + 1,k,hk=>by
   unfold someR
   split
   ·exact quotedR_ord l k
   split
   ·exact numberR_ord l cl k
   split
   ·exact wordR_ord l k
   split
   ·exact arrR_ord hl (someR_bd l cl n) (someR_ord l hl cl n) k hk
   split
   ·exact objR_ord hl (someR_bd l cl n) (someR_ord l hl cl n) k hk
   ·intro e
    exact absurd e (show ¬ (8:Int)=0 by decide)
theorem quotedR_one (l:List UInt8) (k:Nat):(quotedR l k).fault≠1:=by
 unfold quotedR
 split
 ·show (10:Int)≠1;decide
 ·split
  ·rename_i h1 h2;exact h2
  ·show (0:Int)≠1;decide
theorem numberR_one (l:List UInt8) (cl:Bool) (k:Nat):(numberR l cl k).fault≠1:=by
 unfold numberR
 split
 ·show (5:Int)≠1;decide
 ·split
  ·show (10:Int)≠1;decide
  ·show (0:Int)≠1;decide
theorem wordR_one (l:List UInt8) (k:Nat):(wordR l k).fault≠1:=by
 unfold wordR
 split
 ·show (6:Int)≠1;decide
 ·split
  ·show (10:Int)≠1;decide
  ·show (0:Int)≠1;decide
theorem arrGo_one (l:List UInt8) (sm:Nat→PartR) (hf:∀ k,(sm k).fault≠1) (fr:Nat):∀ (f k:Nat) (items:List Tree),(arrGo l sm fr f k items).fault≠1
 | 0,k,items=>by show (10:Int)≠1;decide
 | f+1,k,items=>by
   unfold arrGo
   split
   ·show (10:Int)≠1;decide
   split
   ·exact hf k
   split
   ·show (10:Int)≠1;decide
   split
   ·show (0:Int)≠1;decide
   split
   ·show (8:Int)≠1;decide
   ·exact arrGo_one l sm hf fr f _ _
theorem arrR_one (l:List UInt8) (sm:Nat→PartR) (hf:∀ k,(sm k).fault≠1) (k:Nat):(arrR l sm k).fault≠1:=by
 unfold arrR
 split
 ·show (0:Int)≠1;decide
 ·exact arrGo_one l sm hf k _ _ _
theorem nameR_one (l:List UInt8) (k:Nat) (f:Int) (p:Nat) (h:nameR10 l k=(none,f,p)):f≠1:=by
 unfold nameR10 at h
 split at h
 ·cases h;decide
 split at h
 ·cases h;decide
 split at h
 ·cases h;exact quotedR_one l k
 split at h
 ·cases h;decide
 split at h
 ·cases h;decide
 split at h
 ·cases h;decide
 ·cases h
theorem objGo_one (l:List UInt8) (sm:Nat→PartR) (hf:∀ k,(sm k).fault≠1) (fr:Nat):∀ (f k:Nat) (items:List Tree) (names:List (List UInt8)),(objGo l sm fr f k items names).fault≠1
 | 0,k,items,names=>by show (10:Int)≠1;decide
 | f + 1,k,items,names=>by
   unfold objGo
   rcases hr:nameR10 l k with ⟨_|⟨nm,v⟩,r⟩
   ·exact nameR_one l k r.1 r.2 hr
   ·show (if (sm v).fault≠0 then _ else _:PartR).fault≠1
    split
    ·exact hf v
    split
    ·show (10:Int)≠1;decide
    split
    ·show (0:Int)≠1;decide
    split
    ·show (8:Int)≠1;decide
    ·exact objGo_one l sm hf fr f _ _ _
theorem objR_one (l:List UInt8) (sm:Nat→PartR) (hf:∀ k,(sm k).fault≠1) (k:Nat):(objR l sm k).fault≠1:=by
 unfold objR
 split
 ·show (0:Int)≠1;decide
 ·exact objGo_one l sm hf k _ _ _ _
theorem someR_one (l:List UInt8) (cl:Bool):∀ (n k:Nat),(someR l cl n k).fault≠1
 | 0, k=>by
   unfold someR
   split
   ·exact quotedR_one l k
   split
   ·exact numberR_one l cl k
   split
   ·exact wordR_one l k
   ·show (if _ then (12:Int) else 8)≠1
    split<;>decide
 | n+1,k=>by
   unfold someR
   split
   ·exact quotedR_one l k
   split
   ·exact numberR_one l cl k
   split
   ·exact wordR_one l k
   split
   ·exact arrR_one l _ (someR_one l cl n) k
   split
   ·exact objR_one l _ (someR_one l cl n) k
   ·show (8:Int)≠1;decide
theorem parseR_ord (l:List UInt8) (hl:l.length≤100000) (d:Int) (v:Tree) (pp:Nat) (h:ParseR l d=(v,1,pp)):∃ k e,e≤l.length∧Stood v k e:=by
 unfold ParseR at h
 split at h
 ·rename_i h1
  have e:(SomeR l d true).1=v:=by injection h
  revert h1 e
  unfold SomeR
  split
  ·intro h1;exact absurd h1 (show ¬ (11:Int)=1 by decide)
  ·rename_i hk
   have hlt:blankR l 0<l.length:=by omega
   have hp:=someR_ord l hl true (newN d).most (blankR l 0) hlt
   have hbd:=someR_bd l true (newN d).most (blankR l 0) hlt
   split
   ·intro h1;exact absurd h1 (show ¬ (0:Int)=1 by decide)
   ·split
    ·rename_i hf
     intro h1 e
     exact absurd (show (someR l true (newN d).most (blankR l 0)).fault=1 from h1) (someR_one l true _ _)
    ·rename_i hf
     have h0:=Classical.not_not.1 hf
     have hb:=hbd.1
     split
     ·intro h1;exact absurd h1 (show ¬ (9:Int)=1 by decide)
     ·intro _ e
      subst e
      exact ⟨_,_,hb,hp h0⟩
 ·rename_i h1
  have e:(SomeR l d true).2.2.1=1:=by injection h with _ h2;rw[h2]
  exact absurd e h1
end
end Go.Proofs.YtnokhgfifbkflaaGreat
