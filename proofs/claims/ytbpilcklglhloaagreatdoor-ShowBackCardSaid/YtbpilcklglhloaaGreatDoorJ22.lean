/- Lemmas. -/
import Derived.Test.YtbpilcklglhloaaGreatDoorJ21
import Derived.Laws.Runes
set_option maxRecDepth 100000
set_option maxHeartbeats 8000000
set_option linter.unusedVariables false
namespace Go.Proofs.YtbpilcklglhloaaGreatDoor
open Go.Lib (hid)
section
open Go.RowKit
theorem idx_small (v:Int) (h0:0≤v) (h1:v<128) (w:World) :
   Calls Tryz.prog 94 #[.string ⟨#[34,92,8,12,10,13,9]⟩,.int .i32 v] w fun e w'=>e=.returned (.int .i64 (idxI v))∧w=w':=by
 refine (Tryz.strings_IndexRune_ascii _ v w h0 h1).mono ?_
 rintro e w' ⟨rfl,rfl⟩
 refine ⟨ret_i ?_,rfl⟩
 obtain ⟨n,rfl⟩:∃ n:Nat,v=n:=⟨v.toNat,by omega⟩
 have hn:n<128:=by omega
 have:∀ n:Nat,n<128→Lib.indexByte [34,92,8,12,10,13,9] (n:Int).toNat.toUInt8=idxI n:=by decide +kernel
 exact this n hn
theorem ib_none (l:List UInt8) (c:UInt8) (h:∀ b∈l,b.toNat<128) (hc:128≤c.toNat):Lib.indexByte l c = -1:=by
 induction l with
 | nil=>rfl
 | cons b t ih =>
   have hb:=h b (by simp)
   have hne:(b==c)=false:=by
     rw[beq_eq_false_iff_ne]
     intro e
     subst e
     omega
   rw[Lib.indexByte,hne,ih (fun x hx=>h x (by simp[hx]))]
   rfl
theorem ibyte_none (s:ByteArray) (hs:∀ b∈s.data.toList,b.toNat<128) (c:UInt8) (hc:128≤c.toNat) (w:World) :
   Calls Tryz.prog 117 #[.string s,.int .u8 c.toNat] w fun e w'=>e=.returned (.int .i64 (-1))∧w'=w:=by
 have h:=Tryz.strings_IndexByte s c.toNat w
 have e:(c.toNat:Int).toNat.toUInt8=c:=by simp
 rw[e,ib_none _ _ hs hc] at h
 exact h
theorem valid_sgn {v:Int} (h:Sgn v):Utf8.valid v=true:=by
 rw[validRune_eq]
 unfold validRune
 simp
 obtain ⟨a,b,c⟩:=h
 omega
theorem lvalid_sgn {v:Int} (h:Sgn v):Lib.validRune v=true:=by
 unfold Lib.validRune
 obtain ⟨a,b,c⟩:=h
 simp
 omega
theorem idx_two (v:Int) (h:Sgn v) (h1:128≤v) (hne:v≠65533) (rs:ByteArray) (hrs:Utf8.encode v=rs) (hsz:rs.size=2) (hl:128≤rs[1].toNat) (w:World) :
   Calls Tryz.prog 94 #[.string ⟨#[34,92,8,12,10,13,9]⟩,.int .i32 v] w fun e w'=>e=.returned (.int .i64 (-1))∧Below w.heap.size w w':=by
 have gv:(v==65533)=false:=beq_eq_false_iff_ne.2 hne
 have hv:Calls Tryz.prog 118 #[.int .i32 v] w fun e w'=>e=.returned (.bool true)∧w'=w:=by
   have:=Tryz.utf8_ValidRune v w
   rw[lvalid_sgn h] at this
   exact this
 have HV:=hid hv
 clear hv h hne
 go_enter Tryz.func94,Tryz.ntmps94
 go_wp2_with (go_at_call 118;refine HV.out.mono ?_;rintro e w' ⟨rfl,rfl⟩)
 go_step3
 go_wp2
 refine wp_loop_rounds 1 ?_
 rw[rounds_succ]
 go_wp2
 go_step3
 go_wp2
 have hlast:1<rs.size:=by omega
 have g1:(((ByteArray.mk #[34,92,8,12,10,13,9])[1].toNat:Int) != (rs[1].toNat:Int))=true:=by
   rw[bne_iff_ne];show (92:Int)≠_;omega
 go_quiet (fail)
 have hb:=below_drewN (Below.refl w'.heap.size w') nq
 generalize w'.drewN nq=wq at *
 go_wp2
 have hx:∀ b∈((ByteArray.mk #[34,92,8,12,10,13,9]).extract 2 7).data.toList,b.toNat<128:=by decide +kernel
 go_quiet ((go_at_call 117;exact Calls.quiet_of_same (ibyte_none _ hx rs[1] hl _)))
 go_wp2
 rw[Exit.noGoto_ret]
 go_wp2
 rw[Exit.noGoto_ret]
 go_ret
 exact ⟨rfl,below_drewN hb _⟩
theorem idx_three (v:Int) (h:Sgn v) (h1:128≤v) (hne:v≠65533) (rs:ByteArray) (hrs:Utf8.encode v=rs) (hsz:rs.size=3) (hl:128≤rs[2].toNat) (w:World) :
   Calls Tryz.prog 94 #[.string ⟨#[34,92,8,12,10,13,9]⟩,.int .i32 v] w fun e w'=>e=.returned (.int .i64 (-1))∧Below w.heap.size w w':=by
 have gv:(v==65533)=false:=beq_eq_false_iff_ne.2 hne
 have hv:Calls Tryz.prog 118 #[.int .i32 v] w fun e w'=>e=.returned (.bool true)∧w'=w:=by
   have:=Tryz.utf8_ValidRune v w
   rw[lvalid_sgn h] at this
   exact this
 have HV:=hid hv
 clear hv h hne
 go_enter Tryz.func94,Tryz.ntmps94
 go_wp2_with (go_at_call 118;refine HV.out.mono ?_;rintro e w' ⟨rfl,rfl⟩)
 go_step3
 go_wp2
 refine wp_loop_rounds 1 ?_
 rw[rounds_succ]
 go_wp2
 go_step3
 go_wp2
 have hlast:2<rs.size:=by omega
 have g1:(((ByteArray.mk #[34,92,8,12,10,13,9])[2].toNat:Int) != (rs[2].toNat:Int))=true:=by
   rw[bne_iff_ne];show (8:Int)≠_;omega
 go_quiet (fail)
 have hb:=below_drewN (Below.refl w'.heap.size w') nq
 generalize w'.drewN nq=wq at *
 go_wp2
 have hx:∀ b∈((ByteArray.mk #[34,92,8,12,10,13,9]).extract 3 7).data.toList,b.toNat<128:=by decide +kernel
 go_quiet ((go_at_call 117;exact Calls.quiet_of_same (ibyte_none _ hx rs[2] hl _)))
 go_wp2
 rw[Exit.noGoto_ret]
 go_wp2
 rw[Exit.noGoto_ret]
 go_ret
 exact ⟨rfl,below_drewN hb _⟩
theorem idx_four (v:Int) (h:Sgn v) (h1:128≤v) (hne:v≠65533) (rs:ByteArray) (hrs:Utf8.encode v=rs) (hsz:rs.size=4) (hl:128≤rs[3].toNat) (w:World) :
   Calls Tryz.prog 94 #[.string ⟨#[34,92,8,12,10,13,9]⟩,.int .i32 v] w fun e w'=>e=.returned (.int .i64 (-1))∧Below w.heap.size w w':=by
 have gv:(v==65533)=false:=beq_eq_false_iff_ne.2 hne
 have hv:Calls Tryz.prog 118 #[.int .i32 v] w fun e w'=>e=.returned (.bool true)∧w'=w:=by
   have:=Tryz.utf8_ValidRune v w
   rw[lvalid_sgn h] at this
   exact this
 have HV:=hid hv
 clear hv h hne
 go_enter Tryz.func94,Tryz.ntmps94
 go_wp2_with (go_at_call 118;refine HV.out.mono ?_;rintro e w' ⟨rfl,rfl⟩)
 go_step3
 go_wp2
 refine wp_loop_rounds 1 ?_
 rw[rounds_succ]
 go_wp2
 go_step3
 go_wp2
 have hlast:3<rs.size:=by omega
 have g1:(((ByteArray.mk #[34,92,8,12,10,13,9])[3].toNat:Int) != (rs[3].toNat:Int))=true:=by
   rw[bne_iff_ne];show (12:Int)≠_;omega
 go_quiet (fail)
 have hb:=below_drewN (Below.refl w'.heap.size w') nq
 generalize w'.drewN nq=wq at *
 go_wp2
 have hx:∀ b∈((ByteArray.mk #[34,92,8,12,10,13,9]).extract 4 7).data.toList,b.toNat<128:=by decide +kernel
 go_quiet ((go_at_call 117;exact Calls.quiet_of_same (ibyte_none _ hx rs[3] hl _)))
 go_wp2
 rw[Exit.noGoto_ret]
 go_wp2
 rw[Exit.noGoto_ret]
 go_ret
 exact ⟨rfl,below_drewN hb _⟩
theorem esc_ascii:∀ k:Nat,k<7 → ∃ h:k<(ByteArray.mk #[34,92,8,12,10,13,9]).size,((ByteArray.mk #[34,92,8,12,10,13,9])[k]'h).toNat<128:=by decide
theorem idx_strange (w:World) :
   Calls Tryz.prog 94 #[.string ⟨#[34,92,8,12,10,13,9]⟩,.int .i32 65533] w fun e w'=>e=.returned (.int .i64 (-1))∧Below w.heap.size w w':=by
 go_enter Tryz.func94,Tryz.ntmps94
 go_wp2
 go_loopw [] (fun wr => ∃ k:Nat,k≤7∧wr=w.iter ⟨#[34,92,8,12,10,13,9]⟩ k) (fun wr=>7-wr.iterPos w.heap.size)
 case atStart=>exact ⟨0,by omega,rfl⟩
 case round =>
   obtain ⟨k,hk,rfl⟩:=hrel
   by_cases hlt:k<7
   ·obtain ⟨h1,h2⟩:=esc_ascii k hlt
    have hnx:=fun ty=>run_next_ascii (P:=Tryz.prog) w ⟨#[34,92,8,12,10,13,9]⟩ k ty h1 h2
    have hne:((((ByteArray.mk #[34,92,8,12,10,13,9])[k]'h1).toNat:Int)==65533)=false:=beq_eq_false_iff_ne.2 (by omega)
    go_wp2
    go_roundw
    case rel=>exact ⟨k+1,by omega,rfl⟩
    case measure=>simp;omega
   ·obtain rfl:k=7:=by omega
    have hnx:=fun ty=>run_next_end (P:=Tryz.prog) w ⟨#[34,92,8,12,10,13,9]⟩ 7 ty (by decide)
    go_wp2
    go_ret
    exact ⟨rfl,(Below.refl _ _).alloc (Nat.le_refl _) _⟩
theorem idx_any (v:Int) (h:Sgn v) (w:World) :
   Calls Tryz.prog 94 #[.string ⟨#[34,92,8,12,10,13,9]⟩,.int .i32 v] w fun e w'=>e=.returned (.int .i64 (idxI v))∧Below w.heap.size w w':=by
 by_cases hs:v<128
 ·refine (idx_small v h.1 hs w).mono ?_
  rintro e w' ⟨rfl,rfl⟩
  exact ⟨rfl,Below.refl _ _⟩
 have hi:idxI v = -1:=by
   unfold idxI
   rw[if_neg (by omega),if_neg (by omega),if_neg (by omega),if_neg (by omega),if_neg (by omega),if_neg (by omega),if_neg (by omega)]
 rw[hi]
 by_cases hf:v=65533
 ·subst hf
  exact idx_strange w
 have h8:128≤v:=by omega
 obtain ⟨h2,h4,hl⟩:=encode_facts v (valid_sgn h) h8
 generalize hrs:Utf8.encode v=rs at *
 have hh:rs.size=2∨rs.size=3∨rs.size=4:=by omega
 rcases hh with e|e|e
 ·have:=hl (by omega)
  simp only [e] at this
  exact idx_two v h h8 hf rs hrs e this w
 ·have:=hl (by omega)
  simp only [e] at this
  exact idx_three v h h8 hf rs hrs e this w
 ·have:=hl (by omega)
  simp only [e] at this
  exact idx_four v h h8 hf rs hrs e this w
end
section
open Go.RowKit
def Wr (w:World)(b:Nat)(F:Nat→Prop)(l:List UInt8)(w':World):Prop:=BldS w' b (fun k=>F k∨w.heap.size≤k) l∧Touch F w w'
section
variable {w w1 w2:World} {b:Nat} {F:Nat→Prop} {l l1 l2:List UInt8}
theorem Wr.start (h:BldS w b F l) (hb:Below w.heap.size w w1):Wr w b F l w1 :=
 ⟨(h.stay (G:=fun k=>w.heap.size≤k) (Touch.of_below hb (fun k _ h=>h)) (fun k hk _ e=>by omega)).mono (fun _ h=>.inl h),Touch.of_new hb⟩
theorem Wr.more (h:Wr w b F l1 w1) (g:Wr w1 b (fun k=>F k∨w.heap.size≤k) l2 w2):Wr w b F l2 w2:=by
 have hs:=h.2.size
 refine ⟨g.1.mono (fun k hk => ?_),h.2.trans g.2 (fun k hk e=>e.elim id (fun h=>by omega))⟩
 rcases hk with (h|h)|h
 ·exact .inl h
 ·exact .inr h
 ·exact .inr (by omega)
end
theorem writeByte_num (b:Nat) (F:Nat→Prop) (l:List UInt8) (c:UInt8) (x:Int) (hx:(c.toNat:Int)=x) (w:World) (h:BldS w b F l) (hlen:l.length≤140000000000000) :
   Calls Tryz.prog 39 #[.pointer (some ⟨b,0,none⟩),.int .u8 x] w fun e w'=>e=.returned .nilIface∧Wr w b F (l++[c]) w':=by
 subst hx
 exact (writeByte_any b F l c w h hlen).mono fun e w' h=>h
theorem writeRune_of (b:Nat) (F:Nat→Prop) (l:List UInt8) (v:Int) (hv:Sgn v) (w:World) (h:BldS w b F l) (hlen:l.length≤130000000000000) :
   Calls Tryz.prog 96 #[.pointer (some ⟨b,0,none⟩),.int .i32 v] w fun e w'=>e=.returned (.tuple #[.int .i64 (ofB v).length,.nilIface])∧Wr w b F (l++ofB v) w':=by
 have:=writeRune_any b F l v hv w h hlen
 rw[ofB_enc hv] at this
 exact this.mono fun e w' h=>h
theorem writeString_of (b:Nat) (F:Nat→Prop) (l m:List UInt8) (s:ByteArray) (hs:s.data.toList=m) (w:World) (h:BldS w b F l) (hlen:l.length+s.size≤140000000000000) :
   Calls Tryz.prog 40 #[.pointer (some ⟨b,0,none⟩),.string s] w fun e w'=>e=.returned (.tuple #[.int .i64 s.size,.nilIface])∧Wr w b F (l++m) w':=by
 subst hs
 exact (writeString_any b F l s w h hlen).mono fun e w' h=>h
theorem low_is (n:Int) (h0:0≤n) (h9:n≤15):lowI n=(lowB n.toNat).toNat:=by
 obtain ⟨k,rfl⟩:=Int.eq_ofNat_of_zero_le h0
 rw[Int.toNat_natCast,low_toNat k (by omega)]
 unfold lowI
 (repeat' split)<;>omega
theorem lower_of (n:Int) (h0:0≤n) (h9:n≤15) (k:Nat) (hk:n.toNat=k) (w:World) :
   Calls Tryz.prog 95 #[.int .i64 n] w fun e w'=>e=.returned (.int .u8 (lowB k).toNat)∧w=w':=by
 subst hk
 rw[← low_is n h0 h9]
 exact lower_any n w
theorem idx_cases (v:Int):(v=34∨v=92∨v=8∨v=12∨v=10∨v=13∨v=9)∨idxI v = -1:=by
 unfold idxI
 (repeat' split)<;>omega
theorem putSign_any (b:Nat) (F:Nat→Prop) (l:List UInt8) (v:Int) (hv:Sgn v) (w:World) (h:BldS w b F l) (hlen:l.length≤100000000000000) :
   Calls Tryz.prog 66 #[.pointer (some ⟨b,0,none⟩),.int .i32 v] w fun e w'=>e=.returned (.tuple #[])∧Wr w b F (l++pieceR v) w':=by
 have HI:=idx_any v hv w
 have HH:=hid h
 have t1:True:=trivial
 clear h
 rcases idx_cases v with hh|hi
 ·rcases hh with rfl|rfl|rfl|rfl|rfl|rfl|rfl
  all_goals
    replace HI:=hid HI
    clear hv
  ·have hp:pieceR 34=[92,34]:=by decide +kernel
   rw[hp]
   clear hp
   go_enter Tryz.func66,Tryz.ntmps66
   go_wp2_with (first
     | (go_at_call 94;refine HI.out.mono ?_;rintro e w1 ⟨rfl,hb1⟩;have h1:=Wr.start HH.out hb1;have H1:=hid h1;clear h1)
     | (go_at_call 39;clear t1;refine (writeByte_num b _ _ 92 92 rfl _ H1.out.1 (by omega)).mono ?_;rintro e w2 ⟨rfl,h2⟩;have H2:=hid (H1.out.more h2);clear h2)
     | (go_at_call 39;refine (writeByte_num b _ _ 34 _ rfl _ H2.out.1 (by simp;omega)).mono ?_;rintro e w3 ⟨rfl,h3⟩;have H3:=hid (H2.out.more h3);clear h3))
   go_end0
   exact ⟨rfl,by have:=H3.out;rw[List.append_assoc] at this;exact this⟩
  ·have hp:pieceR 92=[92,92]:=by decide +kernel
   rw[hp]
   clear hp
   go_enter Tryz.func66,Tryz.ntmps66
   go_wp2_with (first
     | (go_at_call 94;refine HI.out.mono ?_;rintro e w1 ⟨rfl,hb1⟩;have h1:=Wr.start HH.out hb1;have H1:=hid h1;clear h1)
     | (go_at_call 39;clear t1;refine (writeByte_num b _ _ 92 92 rfl _ H1.out.1 (by omega)).mono ?_;rintro e w2 ⟨rfl,h2⟩;have H2:=hid (H1.out.more h2);clear h2)
     | (go_at_call 39;refine (writeByte_num b _ _ 92 _ rfl _ H2.out.1 (by simp;omega)).mono ?_;rintro e w3 ⟨rfl,h3⟩;have H3:=hid (H2.out.more h3);clear h3))
   go_end0
   exact ⟨rfl,by have:=H3.out;rw[List.append_assoc] at this;exact this⟩
  ·have hp:pieceR 8=[92,98]:=by decide +kernel
   rw[hp]
   clear hp
   go_enter Tryz.func66,Tryz.ntmps66
   go_wp2_with (first
     | (go_at_call 94;refine HI.out.mono ?_;rintro e w1 ⟨rfl,hb1⟩;have h1:=Wr.start HH.out hb1;have H1:=hid h1;clear h1)
     | (go_at_call 39;clear t1;refine (writeByte_num b _ _ 92 92 rfl _ H1.out.1 (by omega)).mono ?_;rintro e w2 ⟨rfl,h2⟩;have H2:=hid (H1.out.more h2);clear h2)
     | (go_at_call 39;refine (writeByte_num b _ _ 98 _ rfl _ H2.out.1 (by simp;omega)).mono ?_;rintro e w3 ⟨rfl,h3⟩;have H3:=hid (H2.out.more h3);clear h3))
   go_end0
   exact ⟨rfl,by have:=H3.out;rw[List.append_assoc] at this;exact this⟩
  ·have hp:pieceR 12=[92,102]:=by decide +kernel
   rw[hp]
   clear hp
   go_enter Tryz.func66,Tryz.ntmps66
   go_wp2_with (first
     | (go_at_call 94;refine HI.out.mono ?_;rintro e w1 ⟨rfl,hb1⟩;have h1:=Wr.start HH.out hb1;have H1:=hid h1;clear h1)
     | (go_at_call 39;clear t1;refine (writeByte_num b _ _ 92 92 rfl _ H1.out.1 (by omega)).mono ?_;rintro e w2 ⟨rfl,h2⟩;have H2:=hid (H1.out.more h2);clear h2)
     | (go_at_call 39;refine (writeByte_num b _ _ 102 _ rfl _ H2.out.1 (by simp;omega)).mono ?_;rintro e w3 ⟨rfl,h3⟩;have H3:=hid (H2.out.more h3);clear h3))
   go_end0
   exact ⟨rfl,by have:=H3.out;rw[List.append_assoc] at this;exact this⟩
  ·have hp:pieceR 10=[92,110]:=by decide +kernel
   rw[hp]
   clear hp
   go_enter Tryz.func66,Tryz.ntmps66
   go_wp2_with (first
     | (go_at_call 94;refine HI.out.mono ?_;rintro e w1 ⟨rfl,hb1⟩;have h1:=Wr.start HH.out hb1;have H1:=hid h1;clear h1)
     | (go_at_call 39;clear t1;refine (writeByte_num b _ _ 92 92 rfl _ H1.out.1 (by omega)).mono ?_;rintro e w2 ⟨rfl,h2⟩;have H2:=hid (H1.out.more h2);clear h2)
     | (go_at_call 39;refine (writeByte_num b _ _ 110 _ rfl _ H2.out.1 (by simp;omega)).mono ?_;rintro e w3 ⟨rfl,h3⟩;have H3:=hid (H2.out.more h3);clear h3))
   go_end0
   exact ⟨rfl,by have:=H3.out;rw[List.append_assoc] at this;exact this⟩
  ·have hp:pieceR 13=[92,114]:=by decide +kernel
   rw[hp]
   clear hp
   go_enter Tryz.func66,Tryz.ntmps66
   go_wp2_with (first
     | (go_at_call 94;refine HI.out.mono ?_;rintro e w1 ⟨rfl,hb1⟩;have h1:=Wr.start HH.out hb1;have H1:=hid h1;clear h1)
     | (go_at_call 39;clear t1;refine (writeByte_num b _ _ 92 92 rfl _ H1.out.1 (by omega)).mono ?_;rintro e w2 ⟨rfl,h2⟩;have H2:=hid (H1.out.more h2);clear h2)
     | (go_at_call 39;refine (writeByte_num b _ _ 114 _ rfl _ H2.out.1 (by simp;omega)).mono ?_;rintro e w3 ⟨rfl,h3⟩;have H3:=hid (H2.out.more h3);clear h3))
   go_end0
   exact ⟨rfl,by have:=H3.out;rw[List.append_assoc] at this;exact this⟩
  ·have hp:pieceR 9=[92,116]:=by decide +kernel
   rw[hp]
   clear hp
   go_enter Tryz.func66,Tryz.ntmps66
   go_wp2_with (first
     | (go_at_call 94;refine HI.out.mono ?_;rintro e w1 ⟨rfl,hb1⟩;have h1:=Wr.start HH.out hb1;have H1:=hid h1;clear h1)
     | (go_at_call 39;clear t1;refine (writeByte_num b _ _ 92 92 rfl _ H1.out.1 (by omega)).mono ?_;rintro e w2 ⟨rfl,h2⟩;have H2:=hid (H1.out.more h2);clear h2)
     | (go_at_call 39;refine (writeByte_num b _ _ 116 _ rfl _ H2.out.1 (by simp;omega)).mono ?_;rintro e w3 ⟨rfl,h3⟩;have H3:=hid (H2.out.more h3);clear h3))
   go_end0
   exact ⟨rfl,by have:=H3.out;rw[List.append_assoc] at this;exact this⟩
 ·rw [hi] at HI
  replace HI:=hid HI
  by_cases h32:v<32
  ·have h0:0≤v:=hv.1
   have hp:pieceR v=[92,117,48,48]++[lowB (v.toNat/16)]++[lowB (v.toNat%16)]:=by
     unfold pieceR
     rw[hi,if_neg (by omega),if_pos h32]
     rfl
   rw[hp]
   have HP1:=hid (fun w=>lower_of (v/16) (by omega) (by omega) (v.toNat/16) (by omega) w)
   have HP2:=hid (fun w=>lower_of (v%16) (by omega) (by omega) (v.toNat%16) (by omega) w)
   generalize lowB (v.toNat/16)=c1 at *
   generalize lowB (v.toNat%16)=c2 at *
   have t2:True:=trivial
   clear hp hi hv
   go_enter Tryz.func66,Tryz.ntmps66
   go_wp2_with (first
     | (go_at_call 94;refine HI.out.mono ?_;rintro e w1 ⟨rfl,hb1⟩;have h1:=Wr.start HH.out hb1;have H1:=hid h1;clear h1)
     | (go_at_call 40;refine (writeString_of b _ _ [92,117,48,48] _ rfl _ H1.out.1 (by show l.length+4≤_;omega)).mono ?_;rintro e w2 ⟨rfl,h2⟩;have H2:=hid (H1.out.more h2);clear h2)
     | (go_at_call 95;clear t1;refine (HP1.out _).mono ?_;rintro e w' ⟨rfl,rfl⟩)
     | (go_at_call 39;clear t2;refine (writeByte_num b _ _ c1 _ rfl _ H2.out.1 (by simp;omega)).mono ?_;rintro e w3 ⟨rfl,h3⟩;have H3:=hid (H2.out.more h3);clear h3)
     | (go_at_call 95;refine (HP2.out _).mono ?_;rintro e w' ⟨rfl,rfl⟩)
     | (go_at_call 39;refine (writeByte_num b _ _ c2 _ rfl _ H3.out.1 (by simp;omega)).mono ?_;rintro e w4 ⟨rfl,h4⟩;have H4:=hid (H3.out.more h4);clear h4))
   go_end0
   exact ⟨rfl,by have:=H4.out;simp only [List.append_assoc] at this ⊢;exact this⟩
  ·have hp:pieceR v=ofB v:=by
     unfold pieceR
     rw[hi,if_neg (by omega),if_neg h32]
   rw[hp]
   have h32':32≤v:=by omega
   have HV:=hid hv
   clear hp hi hv h32
   go_enter Tryz.func66,Tryz.ntmps66
   go_wp2_with (first
     | (go_at_call 94;refine HI.out.mono ?_;rintro e w1 ⟨rfl,hb1⟩;have h1:=Wr.start HH.out hb1;have H1:=hid h1;clear h1)
     | (go_at_call 96;refine (writeRune_of b _ _ v HV.out _ H1.out.1 (by omega)).mono ?_;rintro e w2 ⟨rfl,h2⟩;have H2:=hid (H1.out.more h2);clear h2))
   go_end0
   exact ⟨rfl,H2.out⟩
theorem BldS.bound {w:World} {b:Nat} {F:Nat→Prop} {l:List UInt8} (h:BldS w b F l):BldS w b (fun k=>F k∧k<w.heap.size) l:=by
 obtain ⟨p,v,hp,ho,hr,hb,hg⟩:=h
 exact ⟨p,v,hp,ho,hr,⟨hb,ho.inside⟩,fun g e=>⟨⟨(hg g e).1,(hr.lt g e).2⟩,(hg g e).2⟩⟩
theorem touch_iterAt (w:World) (N:Nat) (s:ByteArray) (pos:Nat):Touch (fun k=>k=N) w (w.iterAt N s pos) :=
 ⟨rfl,rfl,rfl,by rw[Lib.iterAt_size];exact Nat.le_refl _,fun k _ hn=>Lib.iterAt_other w N k s pos hn⟩
def RelPutP (s:ByteArray) (W:World) (N:Nat) (wr:World):Prop :=
 ∃ (pos f:Nat) (acc:List UInt8),BldS wr W.heap.size (fun k=>W.heap.size≤k∧k≠N) acc∧wr.heap[N]?=some (.stringIter s pos)∧Below W.heap.size W wr ∧
   acc++putGo f (s.data.toList.drop pos)=34 :: putL s.data.toList∧s.size≤pos+f∧pos≤s.size∧acc.length≤6*pos+1
theorem put_any (s:ByteArray) (W:World) (hs:s.size≤1000000000) :
   Calls Tryz.prog 41 #[.string s] W fun e w'=>e=.returned (.string ⟨(34 :: putL s.data.toList++[34]).toArray⟩)∧Below W.heap.size W w':=by
 have t1:True:=trivial
 have b0:=BldS.fresh W (fun k=>W.heap.size≤k) (Nat.le_refl _)
 have B0:=hid b0
 clear b0
 go_enter Tryz.func41,Tryz.ntmps41
 go_wp2_with (go_at_call 39;clear t1;refine (writeByte_num _ _ [] 34 _ rfl _ B0.out (by simp)).mono ?_;rintro e w1 ⟨rfl,h1⟩;have H1:=hid h1;clear h1)
 have hNB:W.heap.size<w1.heap.size:=by have:=H1.out.2.size;simp at this;omega
 go_loopw [] (fun wr=>RelPutP s W w1.heap.size wr) (fun wr=>s.size-wr.iterPos w1.heap.size)
 case atStart =>
   have hb1:=H1.out.1.bound
   refine ⟨0,s.size,[34],?_,?_,?_,rfl,by omega,by omega,by simp⟩
   ·refine (BldS.stay (G:=fun k=>w1.heap.size≤k) hb1 (Touch.of_below ((Below.refl _ _).alloc (Nat.le_refl _) _) (fun k _ h=>by omega)) (fun k hk h e=>by omega)).mono (fun k hk=>⟨?_,?_⟩)
    ·rcases hk.1 with h|h
     ·exact h
     ·simp at h;omega
    ·have:=hk.2;omega
   ·have:=World.iter_heap w1 s 0
    exact this
   ·have hT:=H1.out.2
    have hb:=hT.below (B:=W.heap.size) (fun k _ h=>h) (by simp)
    exact (((Below.refl _ W).alloc (Nat.le_refl _) _).trans hb).alloc (by omega) _
 case round =>
   obtain ⟨pos,f,acc,hB,hit,hbel,hacc,hfu,hps,hal⟩:=hrel
   have hNw:w1.heap.size<wr.heap.size:=(Array.getElem?_eq_some_iff.1 hit).1
   by_cases hp:pos<s.size
   ·have hnx:∀ ty,(Instr.next (.pointer (some ⟨w1.heap.size,0,none⟩)) true ty).run Tryz.prog wr=_:=fun ty=>Lib.run_next_any_at wr w1.heap.size s pos ty hit hp
    obtain ⟨f,rfl⟩:∃ g,f=g+1:=⟨f-1,by omega⟩
    obtain ⟨hst,hsg,hw1,hw2⟩:=dput_step s pos f hp
    rw[hst] at hacc
    obtain ⟨v,hv⟩:∃ v:Int,((Utf8.decode s pos).1:Int)=v:=⟨_,rfl⟩
    obtain ⟨d,hd⟩:∃ d,(Utf8.decode s pos).2=d:=⟨_,rfl⟩
    rw[hv,hd] at hacc
    rw[hd] at hw1 hw2
    rw[hv] at hsg
    have hti:=touch_iterAt wr w1.heap.size s (pos+d)
    have hB2:=hB.stay hti (fun k _ h e=>h.2 e)
    have hit2:=Lib.iterAt_heap wr w1.heap.size s pos (pos+d) hit
    have hbel2:=hbel.trans (hti.below (B:=W.heap.size) (fun k _ e=>by omega) hbel.size)
    have hs2:(wr.iterAt w1.heap.size s (pos+d)).heap.size=wr.heap.size:=Lib.iterAt_size _ _ _ _
    have HP:=hid (putSign_any W.heap.size _ acc v hsg (wr.iterAt w1.heap.size s (pos+d)) hB2 (by omega))
    have hpl:=pieceR_len v
    replace hacc:=hid hacc
    replace hit2:=hid hit2
    replace hs2:=hid hs2
    have HPR:=hid (show wr.iterPos w1.heap.size=pos by simp[World.iterPos,hit])
    clear hst hsg hB hB2 hti hit
    go_wp2_with (go_at_call 66;refine HP.out.mono ?_;rintro e w2 ⟨rfl,h2⟩;have H2:=hid h2;clear h2)
    go_roundw
    case rel =>
      obtain ⟨hB3,hT3⟩:=H2.out
      have hs2:=hs2.out
      have hr:RelPutP s W w1.heap.size w2:=by
        refine ⟨pos+d,f,acc++pieceR v,hB3.mono (fun k hk => ?_),?_,?_,?_,by omega,hw2,by simp;omega⟩
        ·rcases hk with h|h
         ·exact h
         ·exact ⟨by omega,by omega⟩
        ·exact (hT3.block w1.heap.size (by omega) (fun e=>e.2 rfl)).trans hit2.out
        ·exact hbel2.trans (hT3.below (fun k _ h=>h.1) (by omega))
        ·rw[List.append_assoc];exact hacc.out
      exact hr
    case measure =>
      have hT3:=H2.out.2
      have e:=(hT3.block w1.heap.size (by rw[hs2.out];omega) (fun e=>e.2 rfl)).trans hit2.out
      have e2:w2.iterPos w1.heap.size=pos+d:=by simp[World.iterPos,e]
      rw[e2,HPR.out]
      omega
   ·have hnx:∀ ty,(Instr.next (.pointer (some ⟨w1.heap.size,0,none⟩)) true ty).run Tryz.prog wr=_:=fun ty=>Lib.run_next_end_at wr w1.heap.size s pos ty hit hp
    have hnil:s.data.toList.drop pos=[]:=List.drop_of_length_le (by show s.size≤pos;omega)
    rw[hnil,putGo_nil,List.append_nil] at hacc
    subst hacc
    have t2:True:=trivial
    have HB:=hid hB
    have hlen:(34 :: putL s.data.toList).length≤7000000000:=by omega
    replace hlen:=hid hlen
    clear hB hit hal hfu hnil
    go_wp2_with (first
      | (go_at_call 39;clear t2;refine (writeByte_num _ _ _ 34 _ rfl _ HB.out (by have:=hlen.out;omega)).mono ?_;rintro e w2 ⟨rfl,h2⟩;have H2:=hid h2;clear h2;have hz2:=H2.out.2.size)
      | (go_at_call 27;refine (Tryz.Builder_String_any_k W.heap.size _ _ _ (BldS.is H2.out.1 (B:=W.heap.size) (fun k hk=>by rcases hk with h|h;exact h.1;omega)) (by omega)).mono ?_;rintro e w3 ⟨rfl,_,hb3,_⟩))
    go_ret
    exact ⟨rfl,(hbel.trans (H2.out.2.below (fun k _ h=>h.1) hbel.size)).trans hb3⟩
end
end Go.Proofs.YtbpilcklglhloaaGreatDoor
