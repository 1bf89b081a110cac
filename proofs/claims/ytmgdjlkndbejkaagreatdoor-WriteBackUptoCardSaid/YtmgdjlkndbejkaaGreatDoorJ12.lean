/- Lemmas. -/
import Derived.Test.YtmgdjlkndbejkaaGreatDoorJ11
import Derived.Laws.Runes
set_option maxRecDepth 100000
set_option maxHeartbeats 8000000
set_option linter.unusedVariables false
namespace Go.Proofs.YtmgdjlkndbejkaaGreatDoor
open Go.Lib (hid)
section
open Go.RowKit
theorem ib_none (l:List UInt8) (c:UInt8) (h:∀ b∈l,b.toNat<128) (hc:128≤c.toNat):Lib.indexByte l c = -1:=by
 induction l with
 | nil=>rfl
 | cons b t ih =>
   have hb:=h b (by simp)
   have hne:(b==c)=false:=by
     rw[beq_eq_false_iff_ne]
     intro e
     subst e
     omega
   rw[Lib.indexByte,hne,ih (fun x hx=>h x (by simp[hx]))]
   rfl
theorem ibyte_none (s:ByteArray) (hs:∀ b∈s.data.toList,b.toNat<128) (c:UInt8) (hc:128≤c.toNat) (w:World) :
   Calls Tryz.prog 87 #[.string s,.int .u8 c.toNat] w fun e w'=>e=.returned (.int .i64 (-1))∧w'=w:=by
 have h:=Tryz.strings_IndexByte s c.toNat w
 have e:(c.toNat:Int).toNat.toUInt8=c:=by simp
 rw[e,ib_none _ _ hs hc] at h
 exact h
theorem valid_sgn {v:Int} (h:Sgn v):Utf8.valid v=true:=by
 rw[validRune_eq]
 unfold validRune
 simp
 obtain ⟨a,b,c⟩:=h
 omega
theorem lvalid_sgn {v:Int} (h:Sgn v):Lib.validRune v=true:=by
 unfold Lib.validRune
 obtain ⟨a,b,c⟩:=h
 simp
 omega
end
section
open Go.RowKit
def Wr (w:World)(b:Nat)(F:Nat→Prop)(l:List UInt8)(w':World):Prop:=BldS w' b (fun k=>F k∨w.heap.size≤k) l∧Touch F w w'
section
variable {w w1 w2:World} {b:Nat} {F:Nat→Prop} {l l1 l2:List UInt8}
theorem Wr.start (h:BldS w b F l) (hb:Below w.heap.size w w1):Wr w b F l w1 :=
 ⟨(h.stay (G:=fun k=>w.heap.size≤k) (Touch.of_below hb (fun k _ h=>h)) (fun k hk _ e=>by omega)).mono (fun _ h=>.inl h),Touch.of_new hb⟩
theorem Wr.more (h:Wr w b F l1 w1) (g:Wr w1 b (fun k=>F k∨w.heap.size≤k) l2 w2):Wr w b F l2 w2:=by
 have hs:=h.2.size
 refine ⟨g.1.mono (fun k hk => ?_),h.2.trans g.2 (fun k hk e=>e.elim id (fun h=>by omega))⟩
 rcases hk with (h|h)|h
 ·exact .inl h
 ·exact .inr h
 ·exact .inr (by omega)
end
theorem writeByte_num (b:Nat) (F:Nat→Prop) (l:List UInt8) (c:UInt8) (x:Int) (hx:(c.toNat:Int)=x) (w:World) (h:BldS w b F l) (hlen:l.length≤140000000000000) :
   Calls Tryz.prog 61 #[.pointer (some ⟨b,0,none⟩),.int .u8 x] w fun e w'=>e=.returned .nilIface∧Wr w b F (l++[c]) w':=by
 subst hx
 exact (writeByte_any b F l c w h hlen).mono fun e w' h=>h
theorem writeRune_of (b:Nat) (F:Nat→Prop) (l:List UInt8) (v:Int) (hv:Sgn v) (w:World) (h:BldS w b F l) (hlen:l.length≤130000000000000) :
   Calls Tryz.prog 77 #[.pointer (some ⟨b,0,none⟩),.int .i32 v] w fun e w'=>e=.returned (.tuple #[.int .i64 (ofB v).length,.nilIface])∧Wr w b F (l++ofB v) w':=by
 have:=writeRune_any b F l v hv w h hlen
 rw[ofB_enc hv] at this
 exact this.mono fun e w' h=>h
theorem writeString_of (b:Nat) (F:Nat→Prop) (l m:List UInt8) (s:ByteArray) (hs:s.data.toList=m) (w:World) (h:BldS w b F l) (hlen:l.length+s.size≤140000000000000) :
   Calls Tryz.prog 11 #[.pointer (some ⟨b,0,none⟩),.string s] w fun e w'=>e=.returned (.tuple #[.int .i64 s.size,.nilIface])∧Wr w b F (l++m) w':=by
 subst hs
 exact (writeString_any b F l s w h hlen).mono fun e w' h=>h
theorem low_is (n:Int) (h0:0≤n) (h9:n≤15):lowI n=(lowB n.toNat).toNat:=by
 obtain ⟨k,rfl⟩:=Int.eq_ofNat_of_zero_le h0
 rw[Int.toNat_natCast,low_toNat k (by omega)]
 unfold lowI
 (repeat' split)<;>omega
theorem lower_of (n:Int) (h0:0≤n) (h9:n≤15) (k:Nat) (hk:n.toNat=k) (w:World) :
   Calls Tryz.prog 76 #[.int .i64 n] w fun e w'=>e=.returned (.int .u8 (lowB k).toNat)∧w=w':=by
 subst hk
 rw[← low_is n h0 h9]
 exact lower_any n w
theorem BldS.bound {w:World} {b:Nat} {F:Nat→Prop} {l:List UInt8} (h:BldS w b F l):BldS w b (fun k=>F k∧k<w.heap.size) l:=by
 obtain ⟨p,v,hp,ho,hr,hb,hg⟩:=h
 exact ⟨p,v,hp,ho,hr,⟨hb,ho.inside⟩,fun g e=>⟨⟨(hg g e).1,(hr.lt g e).2⟩,(hg g e).2⟩⟩
theorem touch_iterAt (w:World) (N:Nat) (s:ByteArray) (pos:Nat):Touch (fun k=>k=N) w (w.iterAt N s pos) :=
 ⟨rfl,rfl,rfl,by rw[Lib.iterAt_size];exact Nat.le_refl _,fun k _ hn=>Lib.iterAt_other w N k s pos hn⟩
end
section
open Go.RowKit
def idxN (v:Int):Int:=if v=8 then 0 else if v=9 then 1 else if v=10 then 2 else if v=12 then 3 else if v=13 then 4 else if v=39 then 5 else if v=92 then 6 else -1
def letOfN (v:Int):Int:=if v=8 then 98 else if v=9 then 116 else if v=10 then 110 else if v=12 then 102 else if v=13 then 114 else if v=39 then 39 else 92
def pieceS (v:Int):List UInt8:=if 0≤idxN v then [92,UInt8.ofNat (letOfN v).toNat] else if v<32 then [92,117,48,48,lowB (v.toNat/16),lowB (v.toNat%16)] else ofB v
theorem pieceS_sgn (c:UInt8) (t:List UInt8) {d:Nat×Nat} (h:DecOk (c :: t) d):pieceM (c :: t) (sgnL (c :: t))=pieceS d.1∧goOn (sgnL (c :: t))=d.2∧Sgn d.1:=by
 rcases h with ⟨h0,rfl⟩|⟨h0,h2,hb,hs⟩
 ·rw[h0]
  refine ⟨?_,rfl,by unfold Sgn;omega⟩
  rfl
 ·refine ⟨?_, by unfold goOn;rw[if_neg h0,h2],hs⟩
  rw[pieceM_cons,if_neg h0]
  by_cases hc:c.toNat<128
  ·have h1:=sgn_small c t hc
   rw[h1] at hb ⊢
   have hv:(d.1:Int)=c.toNat:=by
     have hl:=ofB_len d.1
     have hb:ofB d.1=[c]:=hb
     unfold ofB at hb
     obtain ⟨hs0,_,_⟩:=hs
     rcases ofI_is (n:=(d.1:Int)) with ⟨hlt,e⟩|⟨_,_,e⟩|⟨_,_,e⟩|⟨_,e⟩
     ·rw[e] at hb
      simp at hb
      have:=congrArg UInt8.toNat hb
      simp at this
      omega
     all_goals (rw[e] at hb;simp at hb)
   rw[hv]
   unfold pieceS
   rw[Int.toNat_natCast]
   by_cases he:escN c≠0
   ·rw[if_pos he]
    have hc:=escN_cases he
    rcases hc with rfl|rfl|rfl|rfl|rfl|rfl|rfl<;>rfl
   ·rw [if_neg he]
    have hn:idxN c.toNat = -1:=by
      have he:escN c=0:=by simpa using he
      unfold escN at he
      have hne:∀ (k:UInt8) (n:Int),(k.toNat:Int)=n→c≠k→¬ (c.toNat:Int)=n:=fun k n hn h e=>h (UInt8.toNat_inj.1 (by omega))
      have h1:c≠8:=fun e=>by subst e;exact absurd he (by decide)
      have h2:c≠9:=fun e=>by subst e;exact absurd he (by decide)
      have h3:c≠10:=fun e=>by subst e;exact absurd he (by decide)
      have h4:c≠12:=fun e=>by subst e;exact absurd he (by decide)
      have h5:c≠13:=fun e=>by subst e;exact absurd he (by decide)
      have h6:c≠39:=fun e=>by subst e;exact absurd he (by decide)
      have h7:c≠92:=fun e=>by subst e;exact absurd he (by decide)
      unfold idxN
      rw[if_neg (hne 8 8 rfl h1),if_neg (hne 9 9 rfl h2),if_neg (hne 10 10 rfl h3),if_neg (hne 12 12 rfl h4),if_neg (hne 13 13 rfl h5),if_neg (hne 39 39 rfl h6),if_neg (hne 92 92 rfl h7)]
    rw[hn,if_neg (show ¬ (0:Int) ≤ -1 by omega)]
    by_cases h32:c.toNat<32
    ·rw[if_pos h32,if_pos (by omega)]
     rfl
    ·rw[if_neg h32,if_neg (by omega)]
     exact (ofB_one (by omega) rfl).symm
  ·have hge : 128≤(d.1:Int):=by
     by_cases hlt:(d.1:Int)<128
     ·exfalso
      have hlen:2≤(ofB d.1).length∨2≤sgnL (c :: t):=by
        right
        rw[sgn_cons] at h0 ⊢
        split at h0
        ·rename_i hok
         rw[if_pos hok]
         split at h0
         ·rename_i hz
          exfalso
          unfold lfU at hz
          rw[if_pos rfl,if_neg (by omega)] at hz
          revert hz
          (repeat' split)<;>omega
         ·rename_i hz
          rw[if_neg hz]
          have:=sgn_split _ _ _ _ _ rfl h0
          omega
        ·exact absurd rfl h0
      have e:ofB d.1=[UInt8.ofNat d.1]:=by
        unfold ofB
        rcases ofI_is (n:=(d.1:Int)) with ⟨_,e⟩|⟨_,_,e⟩|⟨_,_,e⟩|⟨_,e⟩<;>first|(rw[e];rfl)|(exfalso;omega)
      have hsp:=sgn_split (c :: t) 0 0 0 _ rfl h0
      have hl:=congrArg List.length hb
      rw[e] at hl hlen
      rw[List.length_take] at hl
      have:sgnL (c :: t)≤0+(c :: t).length:=hsp.2
      simp only [List.length_cons,List.length_nil] at hl hlen this
      omega
     ·omega
   have he:escN c=0:=by
     by_cases he:escN c=0
     ·exact he
     ·rcases escN_cases he with rfl|rfl|rfl|rfl|rfl|rfl|rfl<;>exact absurd hc (by decide)
   rw[if_neg (by simp[he]),if_neg (by omega),← hb]
   unfold pieceS
   have hn:idxN d.1 = -1:=by
     unfold idxN
     rw[if_neg (by omega),if_neg (by omega),if_neg (by omega),if_neg (by omega),if_neg (by omega),if_neg (by omega),if_neg (by omega)]
   rw[hn,if_neg (by omega),if_neg (by omega)]
theorem nput_step (s:ByteArray) (pos f:Nat) (h:pos<s.size) :
   nameGo (f+1) (s.data.toList.drop pos)=pieceS (Utf8.decode s pos).1++nameGo f (s.data.toList.drop (pos+(Utf8.decode s pos).2))∧Sgn (Utf8.decode s pos).1∧1≤(Utf8.decode s pos).2∧pos+(Utf8.decode s pos).2≤s.size:=by
 have hl:(s.data.toList.drop pos).length=s.size-pos:=by simp
 have hd:=dec_list s pos h
 cases hc:s.data.toList.drop pos with
 | nil=>rw[hc] at hl;simp at hl;omega
 | cons c t =>
   rw[hc] at hd hl
   have hk:=dec_sgn c t
   rw[← hd] at hk
   obtain ⟨h1,h2,h3⟩:=pieceS_sgn c t hk
   have hp:=piece_len c t
   rw[h2] at hp
   refine ⟨?_,h3,hp.2.2,by omega⟩
   rw[nameGo_cons,h1,h2,← hc,List.drop_drop]
theorem pieceS_len (v:Int):1≤(pieceS v).length∧(pieceS v).length≤6:=by
 have h1:=ofB_pos v
 have h2:=ofB_len v
 unfold pieceS
 split
 ·simp
 ·split
  ·simp
  ·omega
end
section
open Go.RowKit
theorem idxn_small (v:Int) (h0:0≤v) (h1:v<128) (w:World) :
   Calls Tryz.prog 75 #[.string ⟨#[8,9,10,12,13,39,92]⟩,.int .i32 v] w fun e w'=>e=.returned (.int .i64 (idxN v))∧w=w':=by
 refine (Tryz.strings_IndexRune_ascii _ v w h0 h1).mono ?_
 rintro e w' ⟨rfl,rfl⟩
 refine ⟨ret_i ?_,rfl⟩
 obtain ⟨n,rfl⟩:∃ n:Nat,v=n:=⟨v.toNat,by omega⟩
 have hn:n<128:=by omega
 have:∀ n:Nat,n<128→Lib.indexByte [8,9,10,12,13,39,92] (n:Int).toNat.toUInt8=idxN n:=by decide +kernel
 exact this n hn
theorem idxn_two (v:Int) (h:Sgn v) (h1:128≤v) (hne:v≠65533) (rs:ByteArray) (hrs:Utf8.encode v=rs) (hsz:rs.size=2) (hl:128≤rs[1].toNat) (w:World) :
   Calls Tryz.prog 75 #[.string ⟨#[8,9,10,12,13,39,92]⟩,.int .i32 v] w fun e w'=>e=.returned (.int .i64 (-1))∧Below w.heap.size w w':=by
 have gv:(v==65533)=false:=beq_eq_false_iff_ne.2 hne
 have hv:Calls Tryz.prog 88 #[.int .i32 v] w fun e w'=>e=.returned (.bool true)∧w'=w:=by
   have:=Tryz.utf8_ValidRune v w
   rw[lvalid_sgn h] at this
   exact this
 have HV:=hid hv
 clear hv h hne
 go_enter Tryz.func75,Tryz.ntmps75
 go_wp2_with (go_at_call 88;refine HV.out.mono ?_;rintro e w' ⟨rfl,rfl⟩)
 go_step3
 go_wp2
 refine wp_loop_rounds 1 ?_
 rw[rounds_succ]
 go_wp2
 go_step3
 go_wp2
 have hlast:1<rs.size:=by omega
 have g1:(((ByteArray.mk #[8,9,10,12,13,39,92])[1].toNat:Int) != (rs[1].toNat:Int))=true:=by
   rw[bne_iff_ne];show (9:Int)≠_;omega
 go_quiet (fail)
 have hb:=below_drewN (Below.refl w'.heap.size w') nq
 generalize w'.drewN nq=wq at *
 go_wp2
 have hx:∀ b∈((ByteArray.mk #[8,9,10,12,13,39,92]).extract 2 7).data.toList,b.toNat<128:=by decide +kernel
 go_quiet ((go_at_call 87;exact Calls.quiet_of_same (ibyte_none _ hx rs[1] hl _)))
 go_wp2
 rw[Exit.noGoto_ret]
 go_wp2
 rw[Exit.noGoto_ret]
 go_ret
 exact ⟨rfl,below_drewN hb _⟩
theorem idxn_three (v:Int) (h:Sgn v) (h1:128≤v) (hne:v≠65533) (rs:ByteArray) (hrs:Utf8.encode v=rs) (hsz:rs.size=3) (hl:128≤rs[2].toNat) (w:World) :
   Calls Tryz.prog 75 #[.string ⟨#[8,9,10,12,13,39,92]⟩,.int .i32 v] w fun e w'=>e=.returned (.int .i64 (-1))∧Below w.heap.size w w':=by
 have gv:(v==65533)=false:=beq_eq_false_iff_ne.2 hne
 have hv:Calls Tryz.prog 88 #[.int .i32 v] w fun e w'=>e=.returned (.bool true)∧w'=w:=by
   have:=Tryz.utf8_ValidRune v w
   rw[lvalid_sgn h] at this
   exact this
 have HV:=hid hv
 clear hv h hne
 go_enter Tryz.func75,Tryz.ntmps75
 go_wp2_with (go_at_call 88;refine HV.out.mono ?_;rintro e w' ⟨rfl,rfl⟩)
 go_step3
 go_wp2
 refine wp_loop_rounds 1 ?_
 rw[rounds_succ]
 go_wp2
 go_step3
 go_wp2
 have hlast:2<rs.size:=by omega
 have g1:(((ByteArray.mk #[8,9,10,12,13,39,92])[2].toNat:Int) != (rs[2].toNat:Int))=true:=by
   rw[bne_iff_ne];show (10:Int)≠_;omega
 go_quiet (fail)
 have hb:=below_drewN (Below.refl w'.heap.size w') nq
 generalize w'.drewN nq=wq at *
 go_wp2
 have hx:∀ b∈((ByteArray.mk #[8,9,10,12,13,39,92]).extract 3 7).data.toList,b.toNat<128:=by decide +kernel
 go_quiet ((go_at_call 87;exact Calls.quiet_of_same (ibyte_none _ hx rs[2] hl _)))
 go_wp2
 rw[Exit.noGoto_ret]
 go_wp2
 rw[Exit.noGoto_ret]
 go_ret
 exact ⟨rfl,below_drewN hb _⟩
theorem idxn_four (v:Int) (h:Sgn v) (h1:128≤v) (hne:v≠65533) (rs:ByteArray) (hrs:Utf8.encode v=rs) (hsz:rs.size=4) (hl:128≤rs[3].toNat) (w:World) :
   Calls Tryz.prog 75 #[.string ⟨#[8,9,10,12,13,39,92]⟩,.int .i32 v] w fun e w'=>e=.returned (.int .i64 (-1))∧Below w.heap.size w w':=by
 have gv:(v==65533)=false:=beq_eq_false_iff_ne.2 hne
 have hv:Calls Tryz.prog 88 #[.int .i32 v] w fun e w'=>e=.returned (.bool true)∧w'=w:=by
   have:=Tryz.utf8_ValidRune v w
   rw[lvalid_sgn h] at this
   exact this
 have HV:=hid hv
 clear hv h hne
 go_enter Tryz.func75,Tryz.ntmps75
 go_wp2_with (go_at_call 88;refine HV.out.mono ?_;rintro e w' ⟨rfl,rfl⟩)
 go_step3
 go_wp2
 refine wp_loop_rounds 1 ?_
 rw[rounds_succ]
 go_wp2
 go_step3
 go_wp2
 have hlast:3<rs.size:=by omega
 have g1:(((ByteArray.mk #[8,9,10,12,13,39,92])[3].toNat:Int) != (rs[3].toNat:Int))=true:=by
   rw[bne_iff_ne];show (12:Int)≠_;omega
 go_quiet (fail)
 have hb:=below_drewN (Below.refl w'.heap.size w') nq
 generalize w'.drewN nq=wq at *
 go_wp2
 have hx:∀ b∈((ByteArray.mk #[8,9,10,12,13,39,92]).extract 4 7).data.toList,b.toNat<128:=by decide +kernel
 go_quiet ((go_at_call 87;exact Calls.quiet_of_same (ibyte_none _ hx rs[3] hl _)))
 go_wp2
 rw[Exit.noGoto_ret]
 go_wp2
 rw[Exit.noGoto_ret]
 go_ret
 exact ⟨rfl,below_drewN hb _⟩
theorem escN_ascii:∀ k:Nat,k<7 → ∃ h:k<(ByteArray.mk #[8,9,10,12,13,39,92]).size,((ByteArray.mk #[8,9,10,12,13,39,92])[k]'h).toNat<128:=by decide
theorem idxn_strange (w:World) :
   Calls Tryz.prog 75 #[.string ⟨#[8,9,10,12,13,39,92]⟩,.int .i32 65533] w fun e w'=>e=.returned (.int .i64 (-1))∧Below w.heap.size w w':=by
 go_enter Tryz.func75,Tryz.ntmps75
 go_wp2
 go_loopw [] (fun wr => ∃ k:Nat,k≤7∧wr=w.iter ⟨#[8,9,10,12,13,39,92]⟩ k) (fun wr=>7-wr.iterPos w.heap.size)
 case atStart=>exact ⟨0,by omega,rfl⟩
 case round =>
   obtain ⟨k,hk,rfl⟩:=hrel
   by_cases hlt:k<7
   ·obtain ⟨h1,h2⟩:=escN_ascii k hlt
    have hnx:=fun ty=>run_next_ascii (P:=Tryz.prog) w ⟨#[8,9,10,12,13,39,92]⟩ k ty h1 h2
    have hne:((((ByteArray.mk #[8,9,10,12,13,39,92])[k]'h1).toNat:Int)==65533)=false:=beq_eq_false_iff_ne.2 (by omega)
    go_wp2
    go_roundw
    case rel=>exact ⟨k+1,by omega,rfl⟩
    case measure=>simp;omega
   ·obtain rfl:k=7:=by omega
    have hnx:=fun ty=>run_next_end (P:=Tryz.prog) w ⟨#[8,9,10,12,13,39,92]⟩ 7 ty (by decide)
    go_wp2
    go_ret
    exact ⟨rfl,(Below.refl _ _).alloc (Nat.le_refl _) _⟩
theorem idxn_any (v:Int) (h:Sgn v) (w:World) :
   Calls Tryz.prog 75 #[.string ⟨#[8,9,10,12,13,39,92]⟩,.int .i32 v] w fun e w'=>e=.returned (.int .i64 (idxN v))∧Below w.heap.size w w':=by
 by_cases hs:v<128
 ·refine (idxn_small v h.1 hs w).mono ?_
  rintro e w' ⟨rfl,rfl⟩
  exact ⟨rfl,Below.refl _ _⟩
 have hi:idxN v = -1:=by
   unfold idxN
   rw[if_neg (by omega),if_neg (by omega),if_neg (by omega),if_neg (by omega),if_neg (by omega),if_neg (by omega),if_neg (by omega)]
 rw[hi]
 by_cases hf:v=65533
 ·subst hf
  exact idxn_strange w
 have h8:128≤v:=by omega
 obtain ⟨h2,h4,hl⟩:=encode_facts v (valid_sgn h) h8
 generalize hrs:Utf8.encode v=rs at *
 have hh:rs.size=2∨rs.size=3∨rs.size=4:=by omega
 rcases hh with e|e|e
 ·have:=hl (by omega)
  simp only [e] at this
  exact idxn_two v h h8 hf rs hrs e this w
 ·have:=hl (by omega)
  simp only [e] at this
  exact idxn_three v h h8 hf rs hrs e this w
 ·have:=hl (by omega)
  simp only [e] at this
  exact idxn_four v h h8 hf rs hrs e this w
end
end Go.Proofs.YtmgdjlkndbejkaaGreatDoor
