/- Lemmas. -/
import Derived.Test.YtmgdjlkndbejkaaDoorJ29
import Derived.Deep.RegionHeld3
set_option maxRecDepth 100000
set_option maxHeartbeats 8000000
set_option linter.unusedVariables false
namespace Go.Proofs.YtmgdjlkndbejkaaDoor
section
open Go.RowKit
def CnI (W:World)(acc:List UInt8)(w:World):Prop:=BldS w W.heap.size (fun k=>W.heap.size≤k) acc∧Below W.heap.size W w
theorem CnI.on {W w w':World} {acc:List UInt8} (h:CnI W acc w) (hb:Below w.heap.size w w'):CnI W acc w' :=
 ⟨h.1.bound.stay (G:=fun k=>w.heap.size≤k) (Touch.of_below hb (fun k _ h=>h)) (fun k hk h e=>by omega) |>.mono (fun k h=>h.1),h.2.trans (hb.mono h.2.size)⟩
theorem CnI.drew {W w:World}{acc:List UInt8}(h:CnI W acc w):CnI W acc w.drew:=h.on ⟨rfl,rfl,rfl,Nat.le_refl _,fun _ _=>rfl⟩
theorem CnI.drewN {W w:World}{acc:List UInt8}(h:CnI W acc w)(n:Nat):CnI W acc (w.drewN n):=h.on ⟨rfl,rfl,rfl,Nat.le_refl _,fun _ _=>rfl⟩
theorem CnI.below {W w:World}{acc:List UInt8}(h:CnI W acc w):Below W.heap.size W w:=h.2
theorem bld_back {w:World} {b B:Nat} {l:List UInt8} (h:Lib.IsBuilderF 54 5 B b (Lib.byteCells l) w):BldS w b (fun k=>B≤k) l:=by
 have e:Lib.byteCells l=byteCells l:=rfl
 rw[e] at h
 have go:∀ v,w.ownsRowF B 5 1 v (byteCells l).length (byteCells l)→w.ownsRowF 0 5 1 v l.length (byteCells l) ∧ ∀ g,v.ownBlock=some g→B≤g:=by
   intro v hr
   rw[byteCells_length] at hr
   rcases hr with ⟨h1,hh|⟨g,c,cur,fz,rfl,hb0,rest⟩⟩
   ·refine ⟨⟨h1,.inl hh⟩,fun g hg => ?_⟩
    rw[hh.1] at hg
    simp[Value.ownBlock] at hg
   ·exact ⟨⟨h1,.inr ⟨g,c,cur,fz,rfl,Nat.zero_le _,rest⟩⟩,fun g' hg=>by simp[Value.ownBlock] at hg;omega⟩
 rcases h with ⟨hb,v,ho,hr,hn⟩|⟨hb,v,ho,hr,hn⟩
 ·obtain ⟨r1,r2⟩:=go v hr
  exact ⟨_,v,.inl rfl,ho,r1,hb,fun g e=>⟨r2 g e,fun he=>hn (he▸e)⟩⟩
 ·obtain ⟨r1,r2⟩:=go v hr
  exact ⟨_,v,.inr rfl,ho,r1,hb,fun g e=>⟨r2 g e,fun he=>hn (he▸e)⟩⟩
theorem CnI.str {W w:World} {acc:List UInt8} (h:CnI W acc w) (hl:acc.length≤1000000000) :
   Calls Tryd.prog 31 #[.pointer (some ⟨W.heap.size,0,none⟩)] w fun e w'=>e=.returned (.string ⟨acc.toArray⟩)∧CnI W acc w':=by
 have hz:=h.2.size
 refine (Tryd.Builder_String_any_k W.heap.size _ _ _ (BldS.is h.1 (B:=W.heap.size) (fun k hk=>hk)) (by omega)).mono ?_
 rintro e w3 ⟨rfl,hi,hb3,_⟩
 exact ⟨rfl,bld_back hi,h.2.trans hb3⟩
theorem CnI.start (W:World):CnI W [] (W.alloc (.cells #[.pointer none,.slice none 0 0] 54)) :=
 ⟨BldS.fresh W (fun k=>W.heap.size≤k) (Nat.le_refl _),(Below.refl _ _).alloc (Nat.le_refl _) _⟩
def CnEnd (s0:ByteArray) (W:World) (e:Ending) (w':World):Prop :=
 (match nameC (s0.size+1) s0.data.toList [] with
   | none=>e=.returned (.tuple #[.string ⟨#[]⟩,.string ⟨#[]⟩,.bool false])
   | some (nm,r)=>e=.returned (.tuple #[.string ⟨nm.toArray⟩,.string ⟨r.toArray⟩,.bool true]))∧Below W.heap.size W w'
theorem CnEnd.no {s0:ByteArray} {W w':World} (h:nameC (s0.size+1) s0.data.toList []=none) (hb:Below W.heap.size W w'):CnEnd s0 W (.returned (.tuple #[.string ⟨#[]⟩,.string ⟨#[]⟩,.bool false])) w':=by
 unfold CnEnd
 rw[h]
 exact ⟨rfl,hb⟩
theorem CnEnd.yes {s0:ByteArray} {W w':World} {nm r:List UInt8} (h:nameC (s0.size+1) s0.data.toList []=some (nm,r)) (hb:Below W.heap.size W w'):CnEnd s0 W (.returned (.tuple #[.string ⟨nm.toArray⟩,.string ⟨r.toArray⟩,.bool true])) w':=by
 unfold CnEnd
 rw[h]
 exact ⟨rfl,hb⟩
theorem ba_list (s:ByteArray):(⟨s.data.toList.toArray⟩:ByteArray)=s:=by simp
end
end Go.Proofs.YtmgdjlkndbejkaaDoor
