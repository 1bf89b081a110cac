/- Lemmas. -/
import Derived.Test.YtmgdjlkndbejkaaGreatDoorJ12
import Derived.Test.YtmgdjlkndbejkaaGreatDoorJ13
set_option maxRecDepth 100000
set_option maxHeartbeats 8000000
set_option linter.unusedVariables false
namespace Go.Proofs.YtmgdjlkndbejkaaGreatDoor
open Go.Lib (hid)
section
open Go.RowKit
theorem idxn_cases (v:Int):(v=8∨v=9∨v=10∨v=12∨v=13∨v=39∨v=92)∨idxN v = -1:=by
 unfold idxN
 (repeat' split)<;>omega
theorem putSignN_any (b:Nat) (F:Nat→Prop) (l:List UInt8) (v:Int) (hv:Sgn v) (w:World) (h:BldS w b F l) (hlen:l.length≤100000000000000) :
   Calls Tryz.prog 62 #[.pointer (some ⟨b,0,none⟩),.int .i32 v] w fun e w'=>e=.returned (.tuple #[])∧Wr w b F (l++pieceS v) w':=by
 have HI:=idxn_any v hv w
 have HH:=hid h
 have t1:True:=trivial
 clear h
 rcases idxn_cases v with hh|hi
 ·rcases hh with rfl|rfl|rfl|rfl|rfl|rfl|rfl
  all_goals
    replace HI:=hid HI
    clear hv
  ·have hp:pieceS 8=[92,98]:=by decide +kernel
   rw[hp]
   clear hp
   go_enter Tryz.func62,Tryz.ntmps62
   go_wp2_with (first
     | (go_at_call 75;refine HI.out.mono ?_;rintro e w1 ⟨rfl,hb1⟩;have h1:=Wr.start HH.out hb1;have H1:=hid h1;clear h1)
     | (go_at_call 61;clear t1;refine (writeByte_num b _ _ 92 92 rfl _ H1.out.1 (by omega)).mono ?_;rintro e w2 ⟨rfl,h2⟩;have H2:=hid (H1.out.more h2);clear h2)
     | (go_at_call 61;refine (writeByte_num b _ _ 98 _ rfl _ H2.out.1 (by simp;omega)).mono ?_;rintro e w3 ⟨rfl,h3⟩;have H3:=hid (H2.out.more h3);clear h3))
   go_end0
   exact ⟨rfl,by have:=H3.out;rw[List.append_assoc] at this;exact this⟩
  ·have hp:pieceS 9=[92,116]:=by decide +kernel
   rw[hp]
   clear hp
   go_enter Tryz.func62,Tryz.ntmps62
   go_wp2_with (first
     | (go_at_call 75;refine HI.out.mono ?_;rintro e w1 ⟨rfl,hb1⟩;have h1:=Wr.start HH.out hb1;have H1:=hid h1;clear h1)
     | (go_at_call 61;clear t1;refine (writeByte_num b _ _ 92 92 rfl _ H1.out.1 (by omega)).mono ?_;rintro e w2 ⟨rfl,h2⟩;have H2:=hid (H1.out.more h2);clear h2)
     | (go_at_call 61;refine (writeByte_num b _ _ 116 _ rfl _ H2.out.1 (by simp;omega)).mono ?_;rintro e w3 ⟨rfl,h3⟩;have H3:=hid (H2.out.more h3);clear h3))
   go_end0
   exact ⟨rfl,by have:=H3.out;rw[List.append_assoc] at this;exact this⟩
  ·have hp:pieceS 10=[92,110]:=by decide +kernel
   rw[hp]
   clear hp
   go_enter Tryz.func62,Tryz.ntmps62
   go_wp2_with (first
     | (go_at_call 75;refine HI.out.mono ?_;rintro e w1 ⟨rfl,hb1⟩;have h1:=Wr.start HH.out hb1;have H1:=hid h1;clear h1)
     | (go_at_call 61;clear t1;refine (writeByte_num b _ _ 92 92 rfl _ H1.out.1 (by omega)).mono ?_;rintro e w2 ⟨rfl,h2⟩;have H2:=hid (H1.out.more h2);clear h2)
     | (go_at_call 61;refine (writeByte_num b _ _ 110 _ rfl _ H2.out.1 (by simp;omega)).mono ?_;rintro e w3 ⟨rfl,h3⟩;have H3:=hid (H2.out.more h3);clear h3))
   go_end0
   exact ⟨rfl,by have:=H3.out;rw[List.append_assoc] at this;exact this⟩
  ·have hp:pieceS 12=[92,102]:=by decide +kernel
   rw[hp]
   clear hp
   go_enter Tryz.func62,Tryz.ntmps62
   go_wp2_with (first
     | (go_at_call 75;refine HI.out.mono ?_;rintro e w1 ⟨rfl,hb1⟩;have h1:=Wr.start HH.out hb1;have H1:=hid h1;clear h1)
     | (go_at_call 61;clear t1;refine (writeByte_num b _ _ 92 92 rfl _ H1.out.1 (by omega)).mono ?_;rintro e w2 ⟨rfl,h2⟩;have H2:=hid (H1.out.more h2);clear h2)
     | (go_at_call 61;refine (writeByte_num b _ _ 102 _ rfl _ H2.out.1 (by simp;omega)).mono ?_;rintro e w3 ⟨rfl,h3⟩;have H3:=hid (H2.out.more h3);clear h3))
   go_end0
   exact ⟨rfl,by have:=H3.out;rw[List.append_assoc] at this;exact this⟩
  ·have hp:pieceS 13=[92,114]:=by decide +kernel
   rw[hp]
   clear hp
   go_enter Tryz.func62,Tryz.ntmps62
   go_wp2_with (first
     | (go_at_call 75;refine HI.out.mono ?_;rintro e w1 ⟨rfl,hb1⟩;have h1:=Wr.start HH.out hb1;have H1:=hid h1;clear h1)
     | (go_at_call 61;clear t1;refine (writeByte_num b _ _ 92 92 rfl _ H1.out.1 (by omega)).mono ?_;rintro e w2 ⟨rfl,h2⟩;have H2:=hid (H1.out.more h2);clear h2)
     | (go_at_call 61;refine (writeByte_num b _ _ 114 _ rfl _ H2.out.1 (by simp;omega)).mono ?_;rintro e w3 ⟨rfl,h3⟩;have H3:=hid (H2.out.more h3);clear h3))
   go_end0
   exact ⟨rfl,by have:=H3.out;rw[List.append_assoc] at this;exact this⟩
  ·have hp:pieceS 39=[92,39]:=by decide +kernel
   rw[hp]
   clear hp
   go_enter Tryz.func62,Tryz.ntmps62
   go_wp2_with (first
     | (go_at_call 75;refine HI.out.mono ?_;rintro e w1 ⟨rfl,hb1⟩;have h1:=Wr.start HH.out hb1;have H1:=hid h1;clear h1)
     | (go_at_call 61;clear t1;refine (writeByte_num b _ _ 92 92 rfl _ H1.out.1 (by omega)).mono ?_;rintro e w2 ⟨rfl,h2⟩;have H2:=hid (H1.out.more h2);clear h2)
     | (go_at_call 61;refine (writeByte_num b _ _ 39 _ rfl _ H2.out.1 (by simp;omega)).mono ?_;rintro e w3 ⟨rfl,h3⟩;have H3:=hid (H2.out.more h3);clear h3))
   go_end0
   exact ⟨rfl,by have:=H3.out;rw[List.append_assoc] at this;exact this⟩
  ·have hp:pieceS 92=[92,92]:=by decide +kernel
   rw[hp]
   clear hp
   go_enter Tryz.func62,Tryz.ntmps62
   go_wp2_with (first
     | (go_at_call 75;refine HI.out.mono ?_;rintro e w1 ⟨rfl,hb1⟩;have h1:=Wr.start HH.out hb1;have H1:=hid h1;clear h1)
     | (go_at_call 61;clear t1;refine (writeByte_num b _ _ 92 92 rfl _ H1.out.1 (by omega)).mono ?_;rintro e w2 ⟨rfl,h2⟩;have H2:=hid (H1.out.more h2);clear h2)
     | (go_at_call 61;refine (writeByte_num b _ _ 92 _ rfl _ H2.out.1 (by simp;omega)).mono ?_;rintro e w3 ⟨rfl,h3⟩;have H3:=hid (H2.out.more h3);clear h3))
   go_end0
   exact ⟨rfl,by have:=H3.out;rw[List.append_assoc] at this;exact this⟩
 ·rw [hi] at HI
  replace HI:=hid HI
  by_cases h32:v<32
  ·have h0:0≤v:=hv.1
   have hp:pieceS v=[92,117,48,48]++[lowB (v.toNat/16)]++[lowB (v.toNat%16)]:=by
     unfold pieceS
     rw[hi,if_neg (by omega),if_pos h32]
     rfl
   rw[hp]
   have HP1:=hid (fun w=>lower_of (v/16) (by omega) (by omega) (v.toNat/16) (by omega) w)
   have HP2:=hid (fun w=>lower_of (v%16) (by omega) (by omega) (v.toNat%16) (by omega) w)
   generalize lowB (v.toNat/16)=c1 at *
   generalize lowB (v.toNat%16)=c2 at *
   have t2:True:=trivial
   clear hp hi hv
   go_enter Tryz.func62,Tryz.ntmps62
   go_wp2_with (first
     | (go_at_call 75;refine HI.out.mono ?_;rintro e w1 ⟨rfl,hb1⟩;have h1:=Wr.start HH.out hb1;have H1:=hid h1;clear h1)
     | (go_at_call 11;refine (writeString_of b _ _ [92,117,48,48] _ rfl _ H1.out.1 (by show l.length+4≤_;omega)).mono ?_;rintro e w2 ⟨rfl,h2⟩;have H2:=hid (H1.out.more h2);clear h2)
     | (go_at_call 76;clear t1;refine (HP1.out _).mono ?_;rintro e w' ⟨rfl,rfl⟩)
     | (go_at_call 61;clear t2;refine (writeByte_num b _ _ c1 _ rfl _ H2.out.1 (by simp;omega)).mono ?_;rintro e w3 ⟨rfl,h3⟩;have H3:=hid (H2.out.more h3);clear h3)
     | (go_at_call 76;refine (HP2.out _).mono ?_;rintro e w' ⟨rfl,rfl⟩)
     | (go_at_call 61;refine (writeByte_num b _ _ c2 _ rfl _ H3.out.1 (by simp;omega)).mono ?_;rintro e w4 ⟨rfl,h4⟩;have H4:=hid (H3.out.more h4);clear h4))
   go_end0
   exact ⟨rfl,by have:=H4.out;simp only [List.append_assoc] at this ⊢;exact this⟩
  ·have hp:pieceS v=ofB v:=by
     unfold pieceS
     rw[hi,if_neg (by omega),if_neg h32]
   rw[hp]
   have h32':32≤v:=by omega
   have HV:=hid hv
   clear hp hi hv h32
   go_enter Tryz.func62,Tryz.ntmps62
   go_wp2_with (first
     | (go_at_call 75;refine HI.out.mono ?_;rintro e w1 ⟨rfl,hb1⟩;have h1:=Wr.start HH.out hb1;have H1:=hid h1;clear h1)
     | (go_at_call 77;refine (writeRune_of b _ _ v HV.out _ H1.out.1 (by omega)).mono ?_;rintro e w2 ⟨rfl,h2⟩;have H2:=hid (H1.out.more h2);clear h2))
   go_end0
   exact ⟨rfl,H2.out⟩
def RelPnP (s:ByteArray) (b:Nat) (F:Nat→Prop) (l:List UInt8) (W:World) (N:Nat) (wr:World):Prop :=
 ∃ (pos f:Nat) (acc:List UInt8),BldS wr b (fun k=>(F k∨W.heap.size≤k)∧k≠N) acc∧wr.heap[N]?=some (.stringIter s pos)∧Touch F W wr ∧
   acc++nameGo f (s.data.toList.drop pos)=l++39 :: nameM s.data.toList∧s.size≤pos+f∧pos≤s.size∧acc.length≤l.length+6*pos+1
theorem putName_any (b:Nat) (F:Nat→Prop) (l:List UInt8) (s:ByteArray) (W:World) (h:BldS W b F l) (hs:s.size≤1000000000) (hlen:l.length≤1000000000) :
   Calls Tryz.prog 48 #[.pointer (some ⟨b,0,none⟩),.string s] W fun e w'=>e=.returned (.tuple #[])∧Wr W b F (l++nameT s.data.toList) w':=by
 have t1:True:=trivial
 have B0:=hid h
 clear h
 have hlt:b<W.heap.size:=B0.out.inside
 go_enter Tryz.func48,Tryz.ntmps48
 go_wp2_with (go_at_call 61;clear t1;refine (writeByte_num _ _ l 39 _ rfl _ B0.out (by omega)).mono ?_;rintro e w1 ⟨rfl,h1⟩;have H1:=hid h1;clear h1)
 have hNB:W.heap.size≤w1.heap.size:=H1.out.2.size
 go_loopw [] (fun wr=>RelPnP s b F l W w1.heap.size wr) (fun wr=>s.size-wr.iterPos w1.heap.size)
 case atStart =>
   have hb1:=H1.out.1.bound
   have hbel:Below w1.heap.size w1 (w1.iter s 0):=(Below.refl _ _).alloc (Nat.le_refl _) _
   refine ⟨0,s.size,l++[39],?_,?_,?_,?_,by omega,by omega,by simp⟩
   ·refine (BldS.stay (G:=fun k=>w1.heap.size≤k) hb1 (Touch.of_below hbel (fun k _ h=>by omega)) (fun k hk h e=>by omega)).mono (fun k hk=>⟨hk.1,?_⟩)
    have:=hk.2;omega
   ·exact World.iter_heap w1 s 0
   ·exact H1.out.2.trans (Touch.of_new (F:=F) hbel) (fun k _ e=>e)
   ·rw[List.append_assoc];rfl
 case round =>
   obtain ⟨pos,f,acc,hB,hit,hT,hacc,hfu,hps,hal⟩:=hrel
   have hNw:w1.heap.size<wr.heap.size:=(Array.getElem?_eq_some_iff.1 hit).1
   by_cases hp:pos<s.size
   ·have hnx:∀ ty,(Instr.next (.pointer (some ⟨w1.heap.size,0,none⟩)) true ty).run Tryz.prog wr=_:=fun ty=>Lib.run_next_any_at wr w1.heap.size s pos ty hit hp
    obtain ⟨f,rfl⟩:∃ g,f=g+1:=⟨f-1,by omega⟩
    obtain ⟨hst,hsg,hw1,hw2⟩:=nput_step s pos f hp
    rw[hst] at hacc
    obtain ⟨v,hv⟩:∃ v:Int,((Utf8.decode s pos).1:Int)=v:=⟨_,rfl⟩
    obtain ⟨d,hd⟩:∃ d,(Utf8.decode s pos).2=d:=⟨_,rfl⟩
    rw[hv,hd] at hacc
    rw[hd] at hw1 hw2
    rw[hv] at hsg
    have hti:=touch_iterAt wr w1.heap.size s (pos+d)
    have hB2:=hB.stay hti (fun k _ h e=>h.2 e)
    have hit2:=Lib.iterAt_heap wr w1.heap.size s pos (pos+d) hit
    have hT2:=hT.trans hti (fun k hk e=>by omega)
    have hs2:(wr.iterAt w1.heap.size s (pos+d)).heap.size=wr.heap.size:=Lib.iterAt_size _ _ _ _
    have HP:=hid (putSignN_any b _ acc v hsg (wr.iterAt w1.heap.size s (pos+d)) hB2 (by omega))
    have hpl:=pieceS_len v
    replace hacc:=hid hacc
    replace hit2:=hid hit2
    replace hT2:=hid hT2
    replace hs2:=hid hs2
    have HPR:=hid (show wr.iterPos w1.heap.size=pos by simp[World.iterPos,hit])
    clear hst hsg hB hB2 hti hit hT
    go_wp2_with (go_at_call 62;refine HP.out.mono ?_;rintro e w2 ⟨rfl,h2⟩;have H2:=hid h2;clear h2)
    go_roundw
    case rel =>
      obtain ⟨hB3,hT3⟩:=H2.out
      have hs2:=hs2.out
      have hr:RelPnP s b F l W w1.heap.size w2:=by
        refine ⟨pos+d,f,acc++pieceS v,hB3.mono (fun k hk => ?_),?_,?_,?_,by omega,hw2,by simp;omega⟩
        ·rcases hk with h|h
         ·exact h
         ·exact ⟨.inr (by omega),by omega⟩
        ·exact (hT3.block w1.heap.size (by omega) (fun e=>e.2 rfl)).trans hit2.out
        ·exact hT2.out.trans hT3 (fun k hk e=>e.1.elim id (fun h=>by omega))
        ·rw[List.append_assoc];exact hacc.out
      exact hr
    case measure =>
      have hT3:=H2.out.2
      have e:=(hT3.block w1.heap.size (by rw[hs2.out];omega) (fun e=>e.2 rfl)).trans hit2.out
      have e2:w2.iterPos w1.heap.size=pos+d:=by simp[World.iterPos,e]
      rw[e2,HPR.out]
      omega
   ·have hnx:∀ ty,(Instr.next (.pointer (some ⟨w1.heap.size,0,none⟩)) true ty).run Tryz.prog wr=_:=fun ty=>Lib.run_next_end_at wr w1.heap.size s pos ty hit hp
    have hnil:s.data.toList.drop pos=[]:=List.drop_of_length_le (by show s.size≤pos;omega)
    rw[hnil,nameGo_nil,List.append_nil] at hacc
    subst hacc
    have t2:True:=trivial
    have HB:=hid hB
    have HT:=hid hT
    replace hal:=hid hal
    clear hB hit hfu hnil hT
    go_wp2_with (go_at_call 61;clear t2;refine (writeByte_num _ _ _ 39 _ rfl _ HB.out (by have:=hal.out;omega)).mono ?_;rintro e w2 ⟨rfl,h2⟩;have H2:=hid h2;clear h2)
    go_end0
    obtain ⟨hB3,hT3⟩:=H2.out
    have hz:=HT.out.size
    refine ⟨rfl,?_,HT.out.trans hT3 (fun k hk e=>e.1.elim id (fun h=>by omega))⟩
    have e:(l++39 :: nameM s.data.toList)++[39]=l++nameT s.data.toList:=by unfold nameT;simp
    rw[← e]
    refine hB3.mono (fun k hk => ?_)
    rcases hk with h|h
    ·exact h.1
    ·exact .inr (by omega)
theorem nameT_six (l:List UInt8):(nameT l).length≤6*l.length+2:=by
 have:=name_le [] l.length l (Nat.le_refl _)
 unfold nameT
 simp
 omega
theorem name_any (s:ByteArray) (W:World) (hs:s.size≤1000000000) :
   Calls Tryz.prog 30 #[.string s] W fun e w'=>e=.returned (.string ⟨(nameT s.data.toList).toArray⟩)∧Below W.heap.size W w':=by
 have B0:=hid (BldS.fresh W (fun k=>W.heap.size≤k) (Nat.le_refl _))
 have hsix:=nameT_six s.data.toList
 have hsl:s.data.toList.length=s.size:=rfl
 go_enter Tryz.func30,Tryz.ntmps30
 go_wp2_with (first
   | (go_at_call 48;refine (putName_any W.heap.size _ [] s _ B0.out hs (by simp)).mono ?_;rintro e w1 ⟨rfl,h1⟩;rw[List.nil_append] at h1;have H1:=hid h1;clear h1;have hz1:W.heap.size≤w1.heap.size:=(by have:=H1.out.2.size;simp at this;omega))
   | (go_at_call 13;refine (Tryz.Builder_String_any_k W.heap.size _ _ _ (BldS.is H1.out.1 (B:=W.heap.size) (fun k hk=>by rcases hk with h|h;exact h;simp at h;omega)) (by omega)).mono ?_;rintro e w3 ⟨rfl,_,hb3,_⟩))
 go_ret
 have hb:=H1.out.2.below (B:=W.heap.size) (fun k _ h=>h) (by simp)
 exact ⟨rfl,(((Below.refl _ W).alloc (Nat.le_refl _) _).trans hb).trans hb3⟩
end
end Go.Proofs.YtmgdjlkndbejkaaGreatDoor
