/- Lemmas. -/
import Derived.Test.YtmgdjlkndbejkaaGreatDoorJ01
import Derived.ChangeArms
import Derived.OpenShut
import Derived.ChangeBears
import Derived.ChangeBears2
import Derived.LaidLaws
import Derived.MakeChecks
set_option maxRecDepth 100000
set_option maxHeartbeats 8000000
set_option linter.unusedVariables false
namespace Go.Proofs.YtmgdjlkndbejkaaGreatDoor
section
open Go.RowKit Go.ChangeShapes
mutual
def flatD {H:Type}:DataW H→Option (List Value)
 | .lit (.bool b)=>some [.bool b]
 | .lit (.int k n)=>some [.int k n]
 | .lit (.string l)=>some [.string ⟨l.toArray⟩]
 | .agg parts=>flatAll parts
 | _=>none
def flatAll {H:Type}:List (DataW H)→Option (List Value)
 | []=>some []
 | d :: r=>match flatD d,flatAll r with
   | some a,some b=>some (a++b)
   | _,_=>none
end
theorem flatAll_cons {H:Type} {d:DataW H} {r:List (DataW H)} {l:List Value} (h:flatAll (d :: r)=some l):∃ a b,flatD d=some a∧flatAll r=some b∧l=a++b:=by
 unfold flatAll at h
 split at h
 ·rename_i a b ha hb
  exact ⟨a,b,ha,hb,(Option.some.inj h).symm⟩
 ·cases h
theorem flat_parts {H:Type}:∀ (ns:List Nat) (xs:List (DataW H×List MemPlace)) (cs l:List Value),cs.length=ns.sum→ns.length=xs.length →
   (∀ (i n:Nat) x m,ns[i]?=some n→xs[i]?=some x→flatD x.1=some m→(cs.drop (ns.take i).sum).take n=m)→flatAll (xs.map (·.1))=some l→cs=l
 | [],[],cs,l,hl,_,_,hf=>by
   have e:l=[]:=by simpa [flatAll] using hf.symm
   rw[e]
   exact List.eq_nil_of_length_eq_zero (by simpa using hl)
 | n :: r,x :: t,cs,l,hl,hn,hp,hf=>by
   obtain ⟨a,b,ha,hb,rfl⟩:=flatAll_cons (by simpa using hf)
   have h0:=hp 0 n x a rfl rfl ha
   simp only [List.take_zero,List.sum_nil,List.drop_zero] at h0
   have hr:=flat_parts r t (cs.drop n) b (by simp at hl ⊢;omega) (by simpa using hn) (fun i n' x' m hi hx hm=>by
     have:=hp (i+1) n' x' m hi hx hm
     rw[List.take_succ_cons,List.sum_cons] at this
     rw[List.drop_drop]
     exact this) hb
   rw[← h0,← hr,List.take_append_drop]
 | [],_ :: _,_,_,_,hn,_,_=>by simp at hn
 | _ :: _,[],_,_,_,hn,_,_=>by simp at hn
theorem trod_flat {H:Type} {enc:TypeId×Value→H} {P:Program} {w:World} {base:Nat} {sp:Nat→Bool} {held:Bool} (hl:laidOutB P=true) :
   ∀ (fuel:Nat) (t:TypeId) (cs:List Value) (d:DataW H) (p:List MemPlace) (l:List Value),t<P.types.size→DataW.trod enc P w base sp held fuel t cs=some (d,p)→flatD d=some l→cs=l:=by
 intro fuel
 induction fuel with
 | zero=>intro t cs d p l _ h;simp[DataW.trod] at h
 | succ n ih =>
   intro t cs d p l ht h hf
   cases hu:P.underlying t with
   | none=>simp[DataW.trod,hu] at h
   | some u =>
     by_cases hs:∃ fs,u=.struct fs
     ·obtain ⟨fs,rfl⟩:=hs
      obtain ⟨xs,m,hm,hx,hlen,hxl,hall⟩:=DataW.trod_struct hu h
      obtain rfl:n=m:=by omega
      obtain ⟨k1,k2,k3⟩:=kid_struct hl ht hu
      simp only [Prod.mk.injEq] at hx
      obtain ⟨rfl,rfl⟩:=hx
      refine flat_parts (fs.toList.map fun f=>P.cellsOf f.type) xs cs l (hlen.trans k2) (by simp[hxl]) (fun i n' x m hi hx hm => ?_) (by simpa [flatD] using hf)
      rw[List.getElem?_map,Option.map_eq_some_iff] at hi
      obtain ⟨f,hfi,rfl⟩:=hi
      have:=hall i f (by simpa using hfi)
      rw[hx] at this
      have ho:=k3 i f hfi
      rw[← List.map_take]
      rw[ho] at this
      exact ih _ _ _ _ _ (k1 f (List.mem_of_getElem? hfi)) this hm
     by_cases ha:∃ k e,u=.array k e
     ·obtain ⟨k,e,rfl⟩:=ha
      obtain ⟨xs,m,hm,hx,hlen,hxl,hall⟩:=DataW.trod_array hu h
      obtain rfl:n=m:=by omega
      obtain ⟨k1,k2⟩:=kid_array hl ht hu
      simp only [Prod.mk.injEq] at hx
      obtain ⟨rfl,rfl⟩:=hx
      refine flat_parts (List.replicate k (P.cellsOf e)) xs cs l (by rw[hlen,k2];simp) (by simp[hxl]) (fun i n' x m hi hx hm => ?_) (by simpa [flatD] using hf)
      rw[List.getElem?_replicate] at hi
      split at hi
      ·rename_i hik
       obtain rfl:=Option.some.inj hi
       have:=hall i hik
       rw[hx] at this
       rw[show ((List.replicate k (P.cellsOf e)).take i).sum=i*P.cellsOf e by rw[List.take_replicate,Nat.min_eq_left (Nat.le_of_lt hik)];simp]
       exact ih _ _ _ _ _ k1 this hm
      ·cases hi
     by_cases hi:∃ k,u=.int k
     ·obtain ⟨k,rfl⟩:=hi
      obtain ⟨m,rfl,hx,_⟩:=DataW.trod_int hu h
      cases hx
      simpa [flatD] using hf
     by_cases hc:∃ e,u=.slice e
     ·obtain ⟨e,rfl⟩:=hc
      exfalso
      unfold DataW.trod at h
      rw[hu] at h
      split at h
      all_goals first
        | (cases h;done)
        | (exfalso;simp_all;done)
        | (cases h;simp[flatD] at hf;done)
        | skip
      simp only at h
      split at h
      ·obtain ⟨y,_,hy⟩:=Option.bind_eq_some_iff.1 h
       obtain ⟨z,_,hz⟩:=Option.map_eq_some_iff.1 hy
       cases hz
       simp[flatD] at hf
      ·cases h
     by_cases hm:∃ k e,u=.map k e
     ·obtain ⟨k,e,rfl⟩:=hm
      exfalso
      unfold DataW.trod at h
      rw[hu] at h
      split at h
      all_goals first
        | (cases h;done)
        | (exfalso;simp_all;done)
        | (cases h;simp[flatD] at hf;done)
        | skip
      simp only at h
      split at h
      ·split at h
       ·obtain ⟨y,_,hy⟩:=Option.bind_eq_some_iff.1 h
        split at hy
        ·cases hy
         simp[flatD] at hf
        ·cases hy
       ·cases h
      ·cases h
     unfold DataW.trod at h
     rw[hu] at h
     split at h
     all_goals first
       | (cases h;done)
       | (exfalso;simp_all;done)
       | (cases h;simp[flatD] at hf;done)
       | (cases h;simpa [flatD] using hf)
       | (split at h<;>cases h<;>simp[flatD] at hf<;>exact hf)
       | (split at h<;>cases h<;>simp[flatD] at hf<;>done)
       | (obtain ⟨y,_,hy⟩:=Option.map_eq_some_iff.1 h;cases hy;simp[flatD] at hf;done)
       | (split at h<;>first|(cases h;done)|(cases h;simp[flatD] at hf;done)|(obtain ⟨y,_,hy⟩:=Option.map_eq_some_iff.1 h;cases hy;simp[flatD] at hf;done))
theorem laidVars_own {P:Program} (hl:laidOutB P=true) {W:World} {name:String} {d:DataW Unit} {g:Nat} {l:List Value} (hf:flatD d=some l) (hne:l≠[]) (hg:P.globalNamed name=some g) :
   ∀ {laid:List (String×DataW Unit)} {ps:List MemPlace},DataW.LaidVars P W laid ps→(∀ b off,MemPlace.cell b off∈ps → ∃ c t,W.heap[b]?=some (.cells c t (0,0)))→(name,d)∈laid → ∃ t,Own W g t l.toArray
 | [],_,_,_,hm=>by cases hm
 | (n, e) :: r,ps,⟨g',t,cs,fuel,p,q,h1,h2,h3,h4,h5,h6⟩,hps,hm=>by
   subst h6
   rcases List.mem_cons.1 hm with h|h
   ·obtain ⟨rfl,rfl⟩:=Prod.mk.inj h
    obtain rfl:=Option.some.inj (hg.symm.trans h1)
    have hcs:cs.toList=l:=trod_flat hl _ _ _ _ _ _ (global_row hl h2) h4 hf
    have hpos:0<cs.size:=by
      rcases Nat.eq_zero_or_pos cs.size with hz|hz
      ·exact absurd (hcs.symm.trans (List.eq_nil_of_length_eq_zero (by simpa using hz))) hne
      ·exact hz
    obtain ⟨c,t',hc⟩:=hps g 0 (by
      refine List.mem_append_left _ (List.mem_append_left _ ?_)
      unfold MemPlace.row
      simp
      exact hpos)
    have:W.var? P name=some c:=by
      unfold World.var?
      rw[h1]
      simp[hc]
    rw[h3] at this
    obtain rfl:=Option.some.inj this
    refine ⟨t',?_⟩
    rw[← hcs]
    exact hc
   ·exact laidVars_own hl hf hne hg h5 (fun b off hb=>hps b off (List.mem_append_right _ hb)) h
theorem laid_own {P:Program} (hl:laidOutB P=true) {W:World} {laid:List (String×DataW Unit)} (hn:(laid.all fun x=>x.2.handleName?.isNone)=true) (h:laidMetH P laid W) {name:String} {d:DataW Unit} {g:Nat} {l:List Value}
   (hm:(name,d)∈laid) (hf:flatD d=some l) (hne:l≠[]) (hg:P.globalNamed name=some g):∃ t,Own W g t l.toArray:=by
 have h':laidMet P laid W:=by
   unfold laidMetH at h
   have:(laid.filter fun x=>x.2.handleName?.isSome)=[]:=by
     rw[List.filter_eq_nil_iff]
     intro x hx
     have:=List.all_eq_true.1 hn x hx
     simpa using this
   rw[this] at h
   exact h
 obtain ⟨ps,hv,_,hps⟩:=h'
 exact laidVars_own hl hf hne hg hv (fun b off hb=>(hps b off hb).1) hm
end
end Go.Proofs.YtmgdjlkndbejkaaGreatDoor
