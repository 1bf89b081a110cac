/- Lemmas. -/
import Derived.Test.YtnokhgfifbkflaaGreatProg
import Derived.Test.YtnokhgfifbkflaaGreatJ01
import Derived.Test.YtnokhgfifbkflaaGreatJ05
import Derived.Test.YtnokhgfifbkflaaGreatJ32
set_option maxRecDepth 100000
set_option maxHeartbeats 8000000
set_option linter.unusedVariables false
set_option linter.unusedSimpArgs false
namespace Go.Proofs.YtnokhgfifbkflaaGreat
section
open Go.RowKit
instance : Inhabited NdV:=⟨⟨⟨0,0,0,[],none,0,0,none,0,0⟩,none,0,0⟩⟩
section
variable {α:Type} [Inhabited α] {K:RowK α}
theorem all_get (K:RowK α) (l:List α) (t:Nat) (h:t<l.length*K.n):(K.all l)[t]?=some ((Sort.flatK K.enc K.n l.toArray)[t]!):=by
 have hp:=K.pos
 have hq:t/K.n<l.length:=(Nat.div_lt_iff_lt_mul hp).2 h
 have hr:t%K.n<K.n:=Nat.mod_lt _ hp
 have h1:=K.all_at l (t/K.n) l[t/K.n] (List.getElem?_eq_getElem hq) (t%K.n) hr
 have h2:t/K.n*K.n+t%K.n=t:=by rw[Nat.mul_comm];exact Nat.div_add_mod t K.n
 rw[h2] at h1
 rw[h1,Sort.get_flatK K.enc K.n l.toArray t (by simpa using h)]
 have h3:l.toArray[t/K.n]! = l[t/K.n]:=by simp[hq]
 rw[h3]
 have h4:t%K.n<(K.enc l[t/K.n]).length:=by rw[K.len];exact hr
 rw[List.getElem?_eq_getElem h4]
 simp[h4]
theorem row_holds {w:World} {base g n c:Nat} {l:List α} (h:GRow K w base (.slice (some ⟨g,0,none⟩) n c) l):Sort.HoldsK K.enc K.n w g 0 l.toArray:=by
 intro j hj
 rw[Sort.size_flatK] at hj
 have hj':j<l.length*K.n:=by simpa using hj
 have h1:=all_get K l j hj'
 have h2:=h.cells (g:=g) rfl j _ h1
 rw[add_none] at h2
 exact ⟨h2,h.free _⟩
theorem row_sorted {w w':World} {base g n c m:Nat} {l:List α} {d:Array α} {os:Array Obj} (h:GRow K w base (.slice (some ⟨g,0,none⟩) n c) l) (hd:d.size=l.length) (hw:w'=sortWorldK K.enc K.n w g 0 m d os) :
   GRow K w' base (.slice (some ⟨g,0,none⟩) n c) d.toList∧Turned g w w':=by
 subst hw
 have hdl:d.toList.length=l.length:=by simpa using hd
 rcases h.2 with ⟨hv,_⟩|⟨g',c',cur,hv,hb,hg,g1,g2,g3,g4⟩
 ·cases hv
 ·injection hv with hA hm hc
  injection hA with hA
  injection hA with hA
  subst hA
  have hgs:g<w.heap.size:=(Array.getElem?_eq_some_iff.1 hg).1
  refine ⟨?_,rfl,rfl,rfl,?_,fun k hk hne => ?_⟩
  ·unfold GRow
   rw[hdl]
   refine ⟨by rw[K.all_len,hdl],.inr ⟨g,c',Sort.putCells id 0 (Sort.flatK K.enc K.n d) cur,by rw[hm,hc],hb,?_,g1,g2,by simpa [Sort.putCells] using g3,?_⟩⟩
   ·show ((w.heap.modify g (Sort.onCells (Sort.putCells id 0 (Sort.flatK K.enc K.n d))))++os)[g]?=_
    rw[Array.getElem?_append_left (by simpa using hgs)]
    simp[Array.getElem?_modify,hg,Sort.onCells]
   ·have hcs:l.length*K.n≤cur.size:=by rw[g3];exact Nat.mul_le_mul_right _ g1
    apply List.ext_getElem?
    intro t
    by_cases ht:t<l.length*K.n
    ·rw[List.getElem?_take_of_lt ht,all_get K d.toList t (by rw[hdl];exact ht)]
     simp only [Sort.putCells,Array.getElem?_toList,Array.getElem?_mapIdx]
     rw[Array.getElem?_eq_getElem (show t<cur.size by omega)]
     simp[hd,ht]
    ·rw[List.getElem?_eq_none (by rw[List.length_take];omega),List.getElem?_eq_none (by rw[K.all_len,hdl];omega)]
  ·show w.heap.size≤((w.heap.modify g _)++os).size
   simp
  ·show ((w.heap.modify g (Sort.onCells (Sort.putCells id 0 (Sort.flatK K.enc K.n d))))++os)[k]?=w.heap[k]?
   rw[Array.getElem?_append_left (by simpa using hk),Array.getElem?_modify,if_neg (fun e=>hne e.symm)]
end
end
section
open Go.RowKit
def cmpN (a b:NdV):Int:=Lib.compareInt a.x.fr b.x.fr
theorem lt_cmp (a b:NdV):ltOf cmpN a b=decide (a.x.fr<b.x.fr):=by
 unfold ltOf cmpN Lib.compareInt
 by_cases h1:(a.x.fr:Int)<b.x.fr
 ·have:a.x.fr<b.x.fr:=by omega
  simp[h1,this]
 ·have h3:¬ a.x.fr<b.x.fr:=by omega
  by_cases h2:(b.x.fr:Int)<a.x.fr<;>simp[h1,h2,h3]
theorem swo_cmp:Sort.SWO (ltOf cmpN) where
 irrefl x:=by rw[lt_cmp];simp
 trans x y z h1 h2:=by rw[lt_cmp] at *;simp at *;omega
 ntrans x y z h1 h2:=by rw[lt_cmp] at *;simp at *;omega
theorem eclos_any (a b:NdV) (W:World):Calls Tryz.prog 23 #[.agg (ndCells a).toArray,.agg (ndCells b).toArray] W fun e w'=>e=.returned (.int .i64 (cmpN a b)) ∧ ∃ q os',w'=Sort.grow (W.drewN q) os':=by
 obtain ⟨⟨ak,af,at',ax,aA,an,ac,aB,am,ad⟩,aS,asn,asc⟩:=a
 obtain ⟨⟨bk,bf,bt,bx,bA,bn,bc,bB,bm,bd⟩,bS,bsn,bsc⟩:=b
 have hcon:=fun W'=>Tryz.cmp_Compare_int (af:Int) (bf:Int) W'
 change ∀ W',Calls Tryz.prog 24 _ _ _ at hcon
 show Calls Tryz.prog 23 #[.agg #[.int .i64 ak,.int .i64 af,.int .i64 at',.string ⟨ax.toArray⟩,.slice aA an ac,.slice aB am ad,.slice aS asn asc],.agg #[.int .i64 bk,.int .i64 bf,.int .i64 bt,.string ⟨bx.toArray⟩,.slice bA bn bc,.slice bB bm bd,.slice bS bsn bsc]] W fun e w'=>e=.returned (.int .i64 (Lib.compareInt af bf)) ∧ ∃ q os',w'=Sort.grow (W.drewN q) os'
 generalize Lib.compareInt (af:Int) (bf:Int)=r at hcon ⊢
 go_enter Tryz.func23,Tryz.ntmps23
 go_wp2_with (go_at_call 24;refine (hcon _).mono ?_;rintro e w' ⟨rfl,rfl⟩)
 go_ret
 exact ⟨rfl,0,_,by rw[Sort.alloc_eq_grow,Sort.alloc_eq_grow,Sort.grow_grow];rfl⟩
theorem esort_any (ns:List NdV) (g n c base:Nat) (w:World) (h:GRow fndK w base (.slice (some ⟨g,0,none⟩) n c) ns) (h9:ns.length≤1000000) :
   Calls Tryz.prog 22 #[.slice (some ⟨g,0,none⟩) n c,.func (.func 23) #[] #[]] w fun e w'=>e=.returned (.tuple #[]) ∧
     ∃ ns':List NdV,ns'.Perm ns∧ns'.Pairwise (fun a b=>a.x.fr≤b.x.fr)∧GRow fndK w' base (.slice (some ⟨g,0,none⟩) n c) ns'∧Turned g w w':=by
 have hn:n=ns.toArray.size:=by
   obtain ⟨A',c',e,_⟩:=h.form
   simp only [Value.slice.injEq] at e
   rw[e.2.1]
   simp
 have eg:∀ args w,(callFunc 23 args).run Tryz.prog w=.ok (.enter 23 args) w:=enters_of Tryz.func23 (by kernel_rfl) rfl
 obtain ⟨cur,hcu⟩:=h.typed (g:=g) rfl
 have hgs:=(Array.getElem?_eq_some_iff.1 hcu).1
 have hcl:CmpLays Tryz.prog 23 #[] ndCells 7 cmpN g 0 ns.toArray.size w:=fun _ _ _ _ x y=>eclos_any x y _
 have hcon:=AnyQ.slices_SortFunc Tryz.laysSort 7 Tryz.isAgg66 Tryz.sizeOf66 ndCells (fun _=>rfl) (fndK.one) cmpN swo_cmp 23 #[] g 0 c ns.toArray w eg hcl (row_holds h) hgs (by simp;omega)
 change Calls Tryz.prog 22 _ _ _ at hcon
 rw[← hn] at hcon
 refine hcon.mono ?_
 rintro e w' ⟨rfl,d',m,os,hp,hs,hw⟩
 have hsz:d'.size=ns.length:=by have:=hp.1;simpa using this
 obtain ⟨r1,r2⟩:=row_sorted (K:=fndK) h hsz hw
 refine ⟨rfl,d'.toList,?_,?_,r1,r2⟩
 ·have h3:=hp.2.2
  rw[hn] at h3
  have e1:d'.extract 0 ns.toArray.size=d':=by rw[show ns.toArray.size=d'.size by simp[hsz]];simp
  have e2:ns.toArray.extract 0 ns.toArray.size=ns.toArray:=by simp
  rw[e1,e2] at h3
  simpa using h3
 ·rw[List.pairwise_iff_getElem]
  intro i j hi hj hij
  have h4:=hs i j (Nat.zero_le _) hij (by rw[hn];simp at hj ⊢;omega)
  rw[lt_cmp] at h4
  have hi':i<d'.size:=by simpa using hi
  have hj':j<d'.size:=by simpa using hj
  simp[hi',hj'] at h4
  simpa using h4
end
end Go.Proofs.YtnokhgfifbkflaaGreat
