/- Lemmas. -/
import Derived.Test.YtnokhgfifbkflaaGreatProg
import Derived.Test.YtnokhgfifbkflaaGreatJ25
set_option maxRecDepth 100000
set_option maxHeartbeats 8000000
set_option linter.unusedVariables false
namespace Go.Proofs.YtnokhgfifbkflaaGreat
open Go.Lib (hid)
section
open Go.RowKit
section
variable (w:World) (b:Nat) (a sg lf num cnt fst:Int) (acc:List UInt8) (c:Int) (n:Int) (R:World→Prop)
theorem step_0 (h:QT w b 0 sg lf num cnt fst acc)
   (hc:Calls Tryz.prog 137 #[.pointer (some ⟨b,0,none⟩),.int .u8 c] w fun e w'=>e=.returned (.int .i64 n)∧R w') :
   Calls Tryz.prog 130 #[.pointer (some ⟨b,0,none⟩),.int .u8 c] w fun e w'=>e=.returned (.int .i64 n)∧R w':=by
 have c0:=h.c0
 have HC:=hid hc
 clear h hc
 go_enter Tryz.func130,Tryz.ntmps130
 go_wp2_with (go_at_call 137;refine HC.out.mono ?_;rintro e w1 ⟨rfl,h1⟩;have H1:=hid h1;clear h1)
 go_ret
 exact ⟨rfl,H1.out⟩
theorem step_1 (h:QT w b 1 sg lf num cnt fst acc)
   (hc:Calls Tryz.prog 138 #[.pointer (some ⟨b,0,none⟩),.int .u8 c] w fun e w'=>e=.returned (.int .i64 n)∧R w') :
   Calls Tryz.prog 130 #[.pointer (some ⟨b,0,none⟩),.int .u8 c] w fun e w'=>e=.returned (.int .i64 n)∧R w':=by
 have c0:=h.c0
 have HC:=hid hc
 clear h hc
 go_enter Tryz.func130,Tryz.ntmps130
 go_wp2_with (go_at_call 138;refine HC.out.mono ?_;rintro e w1 ⟨rfl,h1⟩;have H1:=hid h1;clear h1)
 go_ret
 exact ⟨rfl,H1.out⟩
theorem step_2 (h:QT w b 2 sg lf num cnt fst acc)
   (hc:Calls Tryz.prog 139 #[.pointer (some ⟨b,0,none⟩),.int .u8 c] w fun e w'=>e=.returned (.int .i64 n)∧R w') :
   Calls Tryz.prog 130 #[.pointer (some ⟨b,0,none⟩),.int .u8 c] w fun e w'=>e=.returned (.int .i64 n)∧R w':=by
 have c0:=h.c0
 have HC:=hid hc
 clear h hc
 go_enter Tryz.func130,Tryz.ntmps130
 go_wp2_with (go_at_call 139;refine HC.out.mono ?_;rintro e w1 ⟨rfl,h1⟩;have H1:=hid h1;clear h1)
 go_ret
 exact ⟨rfl,H1.out⟩
theorem step_3 (h:QT w b 3 sg lf num cnt fst acc)
   (hc:Calls Tryz.prog 140 #[.pointer (some ⟨b,0,none⟩),.int .u8 c,.int .u8 92,.int .i64 4] w fun e w'=>e=.returned (.int .i64 n)∧R w') :
   Calls Tryz.prog 130 #[.pointer (some ⟨b,0,none⟩),.int .u8 c] w fun e w'=>e=.returned (.int .i64 n)∧R w':=by
 have c0:=h.c0
 have HC:=hid hc
 clear h hc
 go_enter Tryz.func130,Tryz.ntmps130
 go_wp2_with (go_at_call 140;refine HC.out.mono ?_;rintro e w1 ⟨rfl,h1⟩;have H1:=hid h1;clear h1)
 go_ret
 exact ⟨rfl,H1.out⟩
theorem step_4 (h:QT w b 4 sg lf num cnt fst acc)
   (hc:Calls Tryz.prog 140 #[.pointer (some ⟨b,0,none⟩),.int .u8 c,.int .u8 117,.int .i64 2] w fun e w'=>e=.returned (.int .i64 n)∧R w') :
   Calls Tryz.prog 130 #[.pointer (some ⟨b,0,none⟩),.int .u8 c] w fun e w'=>e=.returned (.int .i64 n)∧R w':=by
 have c0:=h.c0
 have HC:=hid hc
 clear h hc
 go_enter Tryz.func130,Tryz.ntmps130
 go_wp2_with (go_at_call 140;refine HC.out.mono ?_;rintro e w1 ⟨rfl,h1⟩;have H1:=hid h1;clear h1)
 go_ret
 exact ⟨rfl,H1.out⟩
theorem step_5 (h:QT w b 5 sg lf num cnt fst acc) :
   Calls Tryz.prog 130 #[.pointer (some ⟨b,0,none⟩),.int .u8 c] w fun e w'=>e=.returned (.int .i64 14)∧w=w':=by
 have c0:=h.c0
 clear h
 go_enter Tryz.func130,Tryz.ntmps130
 go_wp2
 go_ret
 exact ⟨rfl,rfl⟩
end
def doneK:QSt→Int
 | .done=>1
 | _=>0
theorem doneK_no {st:QSt} (h:st≠.done):doneK st=0:=by
 cases st<;>first|rfl|exact absurd rfl h
def StepPost (w:World) (b:Nat) (st:QSt) (acc:List UInt8) (c:UInt8) (e:Ending) (w':World):Prop:=match stepQ st c with
 | some (st',x)=>e=.returned (.int .i64 (doneK st'))∧IsQ w' b st' (acc++x)∧Turned b w w'
 | none=>e=.returned (.int .i64 (faultQ st c))∧IsQ w' b st acc∧Turned b w w'
theorem post_on {w w':World} {b:Nat} {st st':QSt} {acc x:List UInt8} {c:UInt8} {n:Int} (hs:stepQ st c=some (st',x)) (hn:n=doneK st') (h:IsQ w' b st' (acc++x)) (ht:Turned b w w'):StepPost w b st acc c (.returned (.int .i64 n)) w':=by
 unfold StepPost
 rw[hs,hn]
 exact ⟨rfl,h,ht⟩
theorem post_no {w w':World} {b:Nat} {st:QSt} {acc:List UInt8} {c:UInt8} {n:Int} (hs:stepQ st c=none) (hn:n=faultQ st c) (h:IsQ w' b st acc) (ht:Turned b w w'):StepPost w b st acc c (.returned (.int .i64 n)) w':=by
 unfold StepPost
 rw[hs,hn]
 exact ⟨rfl,h,ht⟩
theorem u8_int {c:UInt8}{k:UInt8}(h:c≠k):(c.toNat:Int)≠k.toNat:=fun e=>h (UInt8.toNat_inj.1 (by omega))
theorem invL_one (sg:Int) (c:UInt8) (hk:okU sg 0 c.toNat=true) (h5:¬ lfU 0 c.toNat=0):InvL [c] (sgU sg 0 c.toNat) (lfU 0 c.toNat):=by
 generalize hz:(0:Int)=z at hk
 have h:=invL_step (l:=[]) (sg:=sg) (lf:=z) (c:=c) hz.symm hk
 subst hz
 rw[if_neg h5] at h
 exact h
theorem step_plainQ (w:World) (b:Nat) (acc:List UInt8) (c:UInt8) (h:IsQ w b .plain acc) :
   Calls Tryz.prog 130 #[.pointer (some ⟨b,0,none⟩),.int .u8 c.toNat] w (StepPost w b .plain acc c):=by
 obtain ⟨hw,a,sg,lf,num,cnt,fst,hq,⟨rfl,rfl,rfl,rfl,rfl⟩,hst⟩:=h
 by_cases h1:c=34
 ·subst h1
  refine (step_0 w b sg 0 0 0 0 acc 34 1 _ hq (between_mark w b sg 0 0 0 acc hq)).mono ?_
  rintro e w' ⟨rfl,hq',ht⟩
  exact post_on (st':=.done) (x:=[]) rfl rfl (by rw[List.append_nil];exact isQ_mk trivial hq' ⟨rfl,rfl,rfl,rfl,rfl⟩ hst) ht
 by_cases h2:c=92
 ·subst h2
  refine (step_0 w b sg 0 0 0 0 acc 92 0 _ hq (between_slash w b sg 0 0 0 acc hq)).mono ?_
  rintro e w' ⟨rfl,hq',ht⟩
  exact post_on (st':=.esc) (x:=[]) rfl rfl (by rw[List.append_nil];exact isQ_mk trivial hq' ⟨rfl,rfl,rfl,rfl,rfl⟩ hst) ht
 by_cases h3:c.toNat<32
 ·have hs:stepQ .plain c=none:=by rw[step_plain,if_neg h1,if_neg h2,if_pos h3]
  refine (step_0 w b sg 0 0 0 0 acc c.toNat 7 _ hq (between_low w b sg 0 0 0 acc c.toNat (by omega) hq)).mono ?_
  rintro e w' ⟨rfl,rfl⟩
  exact post_no hs (show (7:Int)=if c.toNat<32 then 7 else 2 by rw[if_pos h3]) (isQ_mk trivial hq ⟨rfl,rfl,rfl,rfl,rfl⟩ hst) (Turned.refl _ _)
 have hf:Free 0 c.toNat:=.inr ⟨u8_int h1,u8_int h2,by omega⟩
 by_cases h4:okU 0 0 c.toNat=true
 ·have hk:okU sg 0 c.toNat=true:=by rw[okU_any sg 0];exact h4
  have hst':=stU_step hst (Int.natCast_nonneg _) hk
  by_cases h5:lfU 0 c.toNat=0
  ·have he:=sign_end (p:=[]) (sg:=sg) (lf:=0) rfl hk h5
   have hs:stepQ .plain c=some (.plain,[c]):=by rw[step_plain,if_neg h1,if_neg h2,if_neg h3,if_pos h4,if_pos h5]
   refine (step_0 w b sg 0 0 0 0 acc c.toNat 0 _ hq (between_ok w b sg 0 0 0 0 acc c hf hst hk (fun _=>he.2) hq)).mono ?_
   rintro e w' ⟨rfl,hq',ht⟩
   rw[if_pos h5,he.1,h5] at hq'
   rw[h5] at hst'
   exact post_on hs rfl (isQ_mk trivial hq' ⟨rfl,rfl,rfl,rfl,rfl⟩ hst') ht
  ·have hs:stepQ .plain c=some (.sign (sgU 0 0 c.toNat) (lfU 0 c.toNat) [c],[]):=by rw[step_plain,if_neg h1,if_neg h2,if_neg h3,if_pos h4,if_neg h5]
   have hi:=invL_one sg c hk h5
   have hl:0<lfU 0 c.toNat:=by
     rcases hst'.2 with ⟨h,_⟩|⟨h,_⟩|⟨h,_⟩|⟨h,_⟩
     ·exact absurd h h5
     all_goals (rw[h];decide)
   have hwq:=(stepQ_ok (st:=.plain) trivial hs).1
   refine (step_0 w b sg 0 0 0 0 acc c.toNat 0 _ hq (between_ok w b sg 0 0 0 0 acc c hf hst hk (fun e=>absurd e h5) hq)).mono ?_
   rintro e w' ⟨rfl,hq',ht⟩
   rw[if_neg h5] at hq'
   rw[sgU_any sg 0] at hq' hi hst'
   exact post_on hs rfl (by rw[List.append_nil];exact isQ_mk hwq hq' ⟨rfl,rfl,rfl,rfl,rfl,rfl,hl,hi⟩ hst') ht
 ·have hk:okU sg 0 c.toNat=false:=by rw[okU_any sg 0];simpa using h4
  have hs:stepQ .plain c=none:=by rw[step_plain,if_neg h1,if_neg h2,if_neg h3,if_neg h4]
  refine (step_0 w b sg 0 0 0 0 acc c.toNat 2 _ hq (between_bad w b sg 0 0 0 0 acc c hf hk hq)).mono ?_
  rintro e w' ⟨rfl,rfl⟩
  exact post_no hs (show (2:Int)=if c.toNat<32 then 7 else 2 by rw[if_neg h3]) (isQ_mk trivial hq ⟨rfl,rfl,rfl,rfl,rfl⟩ hst) (Turned.refl _ _)
theorem step_signQ (w:World) (b:Nat) (s l:Int) (p acc:List UInt8) (c:UInt8) (h:IsQ w b (.sign s l p) acc) :
   Calls Tryz.prog 130 #[.pointer (some ⟨b,0,none⟩),.int .u8 c.toNat] w (StepPost w b (.sign s l p) acc c):=by
 obtain ⟨hw,a,sg,lf,num,cnt,fst,hq,⟨rfl,rfl,rfl,rfl,rfl,rfl,hl,hi⟩,hst⟩:=h
 have hf:Free lf c.toNat:=.inl hl
 by_cases h4:okU sg lf c.toNat=true
 ·have hst':=stU_step hst (Int.natCast_nonneg _) h4
  by_cases h5:lfU lf c.toNat=0
  ·have he:=sign_end hi h4 h5
   have hs:stepQ (.sign sg lf p) c=some (.plain,p++[c]):=by rw[step_sign,if_pos h4,if_pos h5]
   refine (step_0 w b sg lf 0 0 0 acc c.toNat 0 _ hq (between_ok w b sg lf 0 0 0 acc c hf hst h4 (fun _=>he.2) hq)).mono ?_
   rintro e w' ⟨rfl,hq',ht⟩
   rw[if_pos h5,he.1,h5] at hq'
   rw[h5] at hst'
   exact post_on hs rfl (isQ_mk trivial hq' ⟨rfl,rfl,rfl,rfl,rfl⟩ hst') ht
  ·have hs:stepQ (.sign sg lf p) c=some (.sign (sgU sg lf c.toNat) (lfU lf c.toNat) (p++[c]),[]):=by rw[step_sign,if_pos h4,if_neg h5]
   have hi':=invL_step hi h4
   rw[if_neg h5] at hi'
   have hl':0<lfU lf c.toNat:=by
     rcases hst'.2 with ⟨h,_⟩|⟨h,_⟩|⟨h,_⟩|⟨h,_⟩
     ·exact absurd h h5
     all_goals (rw[h];decide)
   have hwq:=(stepQ_ok hw hs).1
   refine (step_0 w b sg lf 0 0 0 acc c.toNat 0 _ hq (between_ok w b sg lf 0 0 0 acc c hf hst h4 (fun e=>absurd e h5) hq)).mono ?_
   rintro e w' ⟨rfl,hq',ht⟩
   rw[if_neg h5] at hq'
   exact post_on hs rfl (by rw[List.append_nil];exact isQ_mk hwq hq' ⟨rfl,rfl,rfl,rfl,rfl,rfl,hl',hi'⟩ hst') ht
 ·have hs:stepQ (.sign sg lf p) c=none:=by rw[step_sign,if_neg h4]
  refine (step_0 w b sg lf 0 0 0 acc c.toNat 2 _ hq (between_bad w b sg lf 0 0 0 acc c hf (by simpa using h4) hq)).mono ?_
  rintro e w' ⟨rfl,rfl⟩
  exact post_no hs rfl (isQ_mk hw hq ⟨rfl,rfl,rfl,rfl,rfl,rfl,hl,hi⟩ hst) (Turned.refl _ _)
theorem step_escQ (w:World) (b:Nat) (acc:List UInt8) (c:UInt8) (h:IsQ w b .esc acc) :
   Calls Tryz.prog 130 #[.pointer (some ⟨b,0,none⟩),.int .u8 c.toNat] w (StepPost w b .esc acc c):=by
 obtain ⟨hw,a,sg,lf,num,cnt,fst,hq,⟨rfl,rfl,rfl,rfl,rfl⟩,hst⟩:=h
 by_cases h1:c=117
 ·subst h1
  refine (step_1 w b sg 0 0 0 0 acc 117 0 _ hq (escape_u w b 1 sg 0 0 0 0 acc hq)).mono ?_
  rintro e w' ⟨rfl,hq',ht⟩
  exact post_on (st':=.hex 0 0) (x:=[]) rfl rfl (by rw[List.append_nil];exact isQ_mk (.inl ⟨rfl,rfl⟩) hq' ⟨rfl,rfl,rfl,rfl,rfl⟩ hst) ht
 have fin:∀ (k v:UInt8) (hk:stepQ .esc k=some (.plain,[v])),Calls Tryz.prog 138 #[.pointer (some ⟨b,0,none⟩),.int .u8 k.toNat] w (EscOn w b sg 0 0 0 0 (acc++[v])) →
     Calls Tryz.prog 130 #[.pointer (some ⟨b,0,none⟩),.int .u8 k.toNat] w (StepPost w b .esc acc k):=fun k v hk hc=>by
   refine (step_1 w b sg 0 0 0 0 acc k.toNat 0 _ hq hc).mono ?_
   rintro e w' ⟨rfl,hq',ht⟩
   exact post_on hk rfl (isQ_mk trivial hq' ⟨rfl,rfl,rfl,rfl,rfl⟩ hst) ht
 rcases let_cases c with hh|⟨h2,h3,h4⟩
 ·rcases hh with rfl|rfl|rfl|rfl|rfl|rfl|rfl|rfl
  ·exact fin 34 34 rfl (escape_34 w b 1 sg 0 0 0 0 acc hq)
  ·exact fin 92 92 rfl (escape_92 w b 1 sg 0 0 0 0 acc hq)
  ·exact fin 98 8 rfl (escape_98 w b 1 sg 0 0 0 0 acc hq)
  ·exact fin 102 12 rfl (escape_102 w b 1 sg 0 0 0 0 acc hq)
  ·exact fin 110 10 rfl (escape_110 w b 1 sg 0 0 0 0 acc hq)
  ·exact fin 114 13 rfl (escape_114 w b 1 sg 0 0 0 0 acc hq)
  ·exact fin 116 9 rfl (escape_116 w b 1 sg 0 0 0 0 acc hq)
  ·exact fin 47 47 rfl (escape_47 w b 1 sg 0 0 0 0 acc hq)
 ·have hs:stepQ .esc c=none:=by
    show (if c=117 then some (QSt.hex 0 0,[]) else if letB c=0 then none else some (QSt.plain,[letB c]))=none
    rw[if_neg h1,if_pos h2]
  refine (step_1 w b sg 0 0 0 0 acc c.toNat 3 _ hq (escape_no w b c h1 h3 h4)).mono ?_
  rintro e w' ⟨rfl,rfl⟩
  exact post_no hs rfl (isQ_mk trivial hq ⟨rfl,rfl,rfl,rfl,rfl⟩ hst) (Turned.refl _ _)
theorem step_halfQ (w:World) (b:Nat) (g:Int) (acc:List UInt8) (c:UInt8) (h:IsQ w b (.half g) acc) :
   Calls Tryz.prog 130 #[.pointer (some ⟨b,0,none⟩),.int .u8 c.toNat] w (StepPost w b (.half g) acc c):=by
 obtain ⟨hw,a,sg,lf,num,cnt,fst,hq,⟨rfl,rfl,rfl,rfl,rfl⟩,hst⟩:=h
 by_cases h1:c=92
 ·subst h1
  refine (step_3 w b sg 0 0 0 fst acc 92 0 _ hq (half_on w b 3 sg 0 0 0 fst acc 92 4 hq)).mono ?_
  rintro e w' ⟨rfl,hq',ht⟩
  exact post_on (st':=.hesc fst) (x:=[]) rfl rfl (by rw[List.append_nil];exact isQ_mk hw hq' ⟨rfl,rfl,rfl,rfl,rfl⟩ hst) ht
 ·have hs:stepQ (.half fst) c=none:=by
    show (if c=92 then some (QSt.hesc fst,[]) else none)=none
    rw[if_neg h1]
  refine (step_3 w b sg 0 0 0 fst acc c.toNat 4 _ hq (half_no w b c.toNat 92 4 (u8_int h1))).mono ?_
  rintro e w' ⟨rfl,rfl⟩
  exact post_no hs rfl (isQ_mk hw hq ⟨rfl,rfl,rfl,rfl,rfl⟩ hst) (Turned.refl _ _)
theorem step_hescQ (w:World) (b:Nat) (g:Int) (acc:List UInt8) (c:UInt8) (h:IsQ w b (.hesc g) acc) :
   Calls Tryz.prog 130 #[.pointer (some ⟨b,0,none⟩),.int .u8 c.toNat] w (StepPost w b (.hesc g) acc c):=by
 obtain ⟨hw,a,sg,lf,num,cnt,fst,hq,⟨rfl,rfl,rfl,rfl,rfl⟩,hst⟩:=h
 by_cases h1:c=117
 ·subst h1
  refine (step_4 w b sg 0 0 0 fst acc 117 0 _ hq (half_on w b 4 sg 0 0 0 fst acc 117 2 hq)).mono ?_
  rintro e w' ⟨rfl,hq',ht⟩
  exact post_on (st':=.hhex fst 0 0) (x:=[]) rfl rfl (by rw[List.append_nil];exact isQ_mk ⟨hw.1,hw.2,.inl ⟨rfl,rfl⟩⟩ hq' ⟨rfl,rfl,rfl,rfl,rfl⟩ hst) ht
 ·have hs:stepQ (.hesc fst) c=none:=by
    show (if c=117 then some (QSt.hhex fst 0 0,[]) else none)=none
    rw[if_neg h1]
  refine (step_4 w b sg 0 0 0 fst acc c.toNat 4 _ hq (half_no w b c.toNat 117 2 (u8_int h1))).mono ?_
  rintro e w' ⟨rfl,rfl⟩
  exact post_no hs rfl (isQ_mk hw hq ⟨rfl,rfl,rfl,rfl,rfl⟩ hst) (Turned.refl _ _)
theorem step_hexQ (w:World) (b:Nat) (k:Nat) (v:Int) (acc:List UInt8) (c:UInt8) (h:IsQ w b (.hex k v) acc) :
   Calls Tryz.prog 130 #[.pointer (some ⟨b,0,none⟩),.int .u8 c.toNat] w (StepPost w b (.hex k v) acc c):=by
 obtain ⟨hw,a,sg,lf,num,cnt,fst,hq,⟨rfl,rfl,rfl,rfl,rfl⟩,hst⟩:=h
 have no:∀ (j:Int),hexB c=none→j=3→Calls Tryz.prog 139 #[.pointer (some ⟨b,0,none⟩),.int .u8 c.toNat] w (fun e w'=>e=.returned (.int .i64 j)∧QT w' b 2 sg 0 num k 0 acc∧Turned b w w') →
     Calls Tryz.prog 130 #[.pointer (some ⟨b,0,none⟩),.int .u8 c.toNat] w (StepPost w b (.hex k num) acc c):=fun j hn hj hc=>by
   refine (step_2 w b sg 0 num k 0 acc c.toNat j _ hq hc).mono ?_
   rintro e w' ⟨rfl,hq',ht⟩
   exact post_no (step_hex_none k num c hn) (by rw[hj];show (3:Int)=if (hexB c).isSome then 4 else 3;rw[hn];rfl) (isQ_mk hw hq' ⟨rfl,rfl,rfl,rfl,rfl⟩ hst) ht
 have on:∀ d,hexB c=some d→stepQ (.hex k num) c=some (.hex (k+1) (num*16+d),[])→Calls Tryz.prog 139 #[.pointer (some ⟨b,0,none⟩),.int .u8 c.toNat] w (fun e w'=>e=.returned (.int .i64 0)∧QT w' b 2 sg 0 (num*16+d) ((k+1:Nat):Int) 0 acc∧Turned b w w') →
     Calls Tryz.prog 130 #[.pointer (some ⟨b,0,none⟩),.int .u8 c.toNat] w (StepPost w b (.hex k num) acc c):=fun d hd hs hc=>by
   refine (step_2 w b sg 0 num k 0 acc c.toNat 0 _ hq hc).mono ?_
   rintro e w' ⟨rfl,hq',ht⟩
   exact post_on hs rfl (by rw[List.append_nil];exact isQ_mk (stepQ_ok hw hs).1 hq' ⟨rfl,rfl,rfl,rfl,rfl⟩ hst) ht
 have hW:(k=0∧num=0)∨(k=1∧0≤num∧num≤15)∨(k=2∧0≤num∧num≤255∧(num<220∨223<num))∨(k=3∧0≤num∧num≤4095∧(num<3520∨3583<num)):=hw
 cases hd:hexB c with
 | none =>
   rcases hW with ⟨rfl,hn⟩|⟨rfl,hn⟩|⟨rfl,hn⟩|⟨rfl,hn⟩
   ·exact no 3 hd rfl (dz0_not w b 2 sg 0 num 0 acc (by omega) rfl c hd hq)
   ·exact no 3 hd rfl (dz1_not w b 2 sg 0 num 0 acc (by omega) rfl c hd hq)
   ·exact no 3 hd rfl (dz2_not w b 2 sg 0 num 0 acc (by omega) rfl c hd hq)
   ·exact no 3 hd rfl (dz3_not w b 2 sg 0 num 0 acc (by omega) rfl c hd hq)
 | some d =>
   have hin:=hexB_in hd
   have hs:=step_hex k num d c hd
   rcases hW with ⟨rfl,hn⟩|⟨rfl,hn⟩|⟨rfl,hn⟩|⟨rfl,hn⟩
   ·rw[if_neg (by omega),if_neg (by omega)] at hs
    exact on d hd hs (dz0_on w b 2 sg 0 num 0 acc (by omega) rfl c d hd hq)
   ·by_cases hp:220≤num*16+d∧num*16+d≤223
    ·rw[if_pos ⟨rfl,hp⟩] at hs
     refine (step_2 w b sg 0 num (1:Nat) 0 acc c.toNat 4 _ hq (dz1_pair w b 2 sg 0 num 0 acc (by omega) rfl c d hd (decide_eq_true hp) hq)).mono ?_
     rintro e w' ⟨rfl,hq',ht⟩
     exact post_no hs (by show (4:Int)=if (hexB c).isSome then 4 else 3;rw[hd];rfl) (isQ_mk hw hq' ⟨rfl,rfl,rfl,rfl,rfl⟩ hst) ht
    ·rw[if_neg (fun e=>hp e.2),if_neg (by omega)] at hs
     exact on d hd hs (dz1_on w b 2 sg 0 num 0 acc (by omega) rfl c d hd (decide_eq_false hp) hq)
   ·rw[if_neg (by omega),if_neg (by omega)] at hs
    exact on d hd hs (dz2_on w b 2 sg 0 num 0 acc (by omega) rfl c d hd hq)
   ·rw [if_neg (by omega),if_pos rfl] at hs
    by_cases hp:55296≤num*16+d∧num*16+d≤56319
    ·rw[if_pos hp] at hs
     have hc:=dz3_end w b 2 sg 0 num 0 acc (by omega) rfl c d hd hq (fun w' => ∃ w1,QT w' b 3 sg 0 0 0 (num*16+d) acc) (fun w1 h1=>(endNumber_first w1 b 2 sg 0 (num*16+d) 4 0 acc hp h1).mono fun e w' h=>⟨h.1,⟨w1,h.2.1⟩,h.2.2⟩)
     refine (step_2 w b sg 0 num (3:Nat) 0 acc c.toNat 0 _ hq hc).mono ?_
     rintro e w' ⟨rfl,⟨w1,hq'⟩,ht⟩
     exact post_on hs rfl (by rw[List.append_nil];exact isQ_mk hp hq' ⟨rfl,rfl,rfl,rfl,rfl⟩ hst) ht
    ·rw[if_neg hp] at hs
     have hc:=dz3_end w b 2 sg 0 num 0 acc (by omega) rfl c d hd hq (fun w'=>QT w' b 0 sg 0 0 0 0 (acc++ofB (num*16+d))) (fun w1 h1=>endNumber_plain w1 b 2 sg 0 (num*16+d) 4 0 acc rfl (by omega) h1)
     refine (step_2 w b sg 0 num (3:Nat) 0 acc c.toNat 0 _ hq hc).mono ?_
     rintro e w' ⟨rfl,hq',ht⟩
     exact post_on hs rfl (isQ_mk trivial hq' ⟨rfl,rfl,rfl,rfl,rfl⟩ hst) ht
theorem step_hhexQ (w:World) (b:Nat) (g:Int) (k:Nat) (v:Int) (acc:List UInt8) (c:UInt8) (h:IsQ w b (.hhex g k v) acc) :
   Calls Tryz.prog 130 #[.pointer (some ⟨b,0,none⟩),.int .u8 c.toNat] w (StepPost w b (.hhex g k v) acc c):=by
 obtain ⟨hw,a,sg,lf,num,cnt,fst,hq,⟨rfl,rfl,rfl,rfl,rfl⟩,hst⟩:=h
 have hW:=hw
 obtain ⟨g1,g2,hW⟩:=hW
 have hf:fst≠0:=by omega
 have no:∀ (j:Int),stepQ (.hhex fst k num) c=none→(j=if k≤1 then 4 else 3)→Calls Tryz.prog 139 #[.pointer (some ⟨b,0,none⟩),.int .u8 c.toNat] w (fun e w'=>e=.returned (.int .i64 j)∧QT w' b 2 sg 0 num k fst acc∧Turned b w w') →
     Calls Tryz.prog 130 #[.pointer (some ⟨b,0,none⟩),.int .u8 c.toNat] w (StepPost w b (.hhex fst k num) acc c):=fun j hs hj hc=>by
   refine (step_2 w b sg 0 num k fst acc c.toNat j _ hq hc).mono ?_
   rintro e w' ⟨rfl,hq',ht⟩
   exact post_no hs hj (isQ_mk hw hq' ⟨rfl,rfl,rfl,rfl,rfl⟩ hst) ht
 have on:∀ d,hexB c=some d→stepQ (.hhex fst k num) c=some (.hhex fst (k+1) (num*16+d),[])→Calls Tryz.prog 139 #[.pointer (some ⟨b,0,none⟩),.int .u8 c.toNat] w (fun e w'=>e=.returned (.int .i64 0)∧QT w' b 2 sg 0 (num*16+d) ((k+1:Nat):Int) fst acc∧Turned b w w') →
     Calls Tryz.prog 130 #[.pointer (some ⟨b,0,none⟩),.int .u8 c.toNat] w (StepPost w b (.hhex fst k num) acc c):=fun d hd hs hc=>by
   refine (step_2 w b sg 0 num k fst acc c.toNat 0 _ hq hc).mono ?_
   rintro e w' ⟨rfl,hq',ht⟩
   exact post_on hs rfl (by rw[List.append_nil];exact isQ_mk (stepQ_ok hw hs).1 hq' ⟨rfl,rfl,rfl,rfl,rfl⟩ hst) ht
 cases hd:hexB c with
 | none =>
   have hs:=step_hhex_none fst k num c hd
   rcases hW with ⟨rfl,hn⟩|⟨rfl,hn⟩|⟨rfl,hn⟩|⟨rfl,hn⟩
   ·exact no 4 hs rfl (df0_not w b 2 sg 0 num fst acc (by omega) hf c hd hq)
   ·exact no 4 hs rfl (df1_not w b 2 sg 0 num fst acc (by omega) hf c hd hq)
   ·exact no 3 hs rfl (df2_not w b 2 sg 0 num fst acc (by omega) hf c hd hq)
   ·exact no 3 hs rfl (df3_not w b 2 sg 0 num fst acc (by omega) hf c hd hq)
 | some d =>
   have hin:=hexB_in hd
   have hs:=step_hhex fst k num d c hd
   rcases hW with ⟨rfl,hn⟩|⟨rfl,hn⟩|⟨rfl,hn⟩|⟨rfl,hn⟩
   ·by_cases hp:d=13
    ·rw[if_neg (by omega),if_neg (by omega),if_neg (by omega)] at hs
     exact on d hd hs (df0_on w b 2 sg 0 num fst acc (by omega) hf c d hd (decide_eq_true (by omega)) hq)
    ·rw[if_pos ⟨rfl,hp⟩] at hs
     exact no 4 hs rfl (df0_pair w b 2 sg 0 num fst acc (by omega) hf c d hd (decide_eq_false (by omega)) hq)
   ·by_cases hp:220≤num*16+d∧num*16+d≤223
    ·rw[if_neg (by omega),if_neg (by omega),if_neg (by omega)] at hs
     exact on d hd hs (df1_on w b 2 sg 0 num fst acc (by omega) hf c d hd (decide_eq_true hp) hq)
    ·rw[if_neg (by omega),if_pos (by omega)] at hs
     exact no 4 hs rfl (df1_pair w b 2 sg 0 num fst acc (by omega) hf c d hd (decide_eq_false hp) hq)
   ·rw[if_neg (by omega),if_neg (by omega),if_neg (by omega)] at hs
    exact on d hd hs (df2_on w b 2 sg 0 num fst acc (by omega) hf c d hd hq)
   ·rw[if_neg (by omega),if_neg (by omega),if_pos rfl] at hs
    have hc:=df3_end w b 2 sg 0 num fst acc (by omega) hf c d hd hq (fun w'=>QT w' b 0 sg 0 0 0 0 (acc++ofB (65536+(fst-55296)*1024+(num*16+d-56320)))) (fun w1 h1=>endNumber_pair w1 b 2 sg 0 (num*16+d) 4 fst acc ⟨g1,g2⟩ (by omega) h1)
    refine (step_2 w b sg 0 num (3:Nat) fst acc c.toNat 0 _ hq hc).mono ?_
    rintro e w' ⟨rfl,hq',ht⟩
    exact post_on hs rfl (isQ_mk trivial hq' ⟨rfl,rfl,rfl,rfl,rfl⟩ hst) ht
theorem step_any (w:World) (b:Nat) (st:QSt) (acc:List UInt8) (c:UInt8) (h:IsQ w b st acc) :
   Calls Tryz.prog 130 #[.pointer (some ⟨b,0,none⟩),.int .u8 c.toNat] w (StepPost w b st acc c):=by
 cases st with
 | plain=>exact step_plainQ w b acc c h
 | sign s l p=>exact step_signQ w b s l p acc c h
 | esc=>exact step_escQ w b acc c h
 | hex k v=>exact step_hexQ w b k v acc c h
 | half g=>exact step_halfQ w b g acc c h
 | hesc g=>exact step_hescQ w b g acc c h
 | hhex g k v=>exact step_hhexQ w b g k v acc c h
 | done =>
   obtain ⟨hw,a,sg,lf,num,cnt,fst,hq,⟨rfl,rfl,rfl,rfl,rfl⟩,hst⟩:=h
   refine (step_5 w b sg 0 0 0 0 acc c.toNat hq).mono ?_
   rintro e w' ⟨rfl,rfl⟩
   exact post_no rfl rfl (isQ_mk trivial hq ⟨rfl,rfl,rfl,rfl,rfl⟩ hst) (Turned.refl _ _)
theorem textQ (w:World) (b:Nat) (st:QSt) (acc:List UInt8) (h:IsQ w b st acc) (hl:acc.length≤1000000000000) :
   Calls Tryz.prog 131 #[.pointer (some ⟨b,0,none⟩)] w fun e w'=>e=.returned (.string ⟨acc.toArray⟩)∧Below w.heap.size w w':=by
 obtain ⟨hw,a,sg,lf,num,cnt,fst,hq,_,_⟩:=h
 exact text_any b a sg lf num cnt fst acc w hq hl
theorem IsQ.inside {w:World} {b:Nat} {st:QSt} {acc:List UInt8} (h:IsQ w b st acc):b<w.heap.size:=by
 obtain ⟨hw,a,sg,lf,num,cnt,fst,hq,_⟩:=h
 exact hq.inside
end
section
open Go.RowKit
def RelRd (s:ByteArray) (W wr:World) (i:Value):Prop :=
 ∃ (k:Nat) (st:QSt) (acc:List UInt8),k≤s.size∧i=.int .i64 k∧IsQ wr W.heap.size st acc∧st≠.done∧Below W.heap.size W wr ∧
   readR .plain s.data.toList [] 0=readR st (s.data.toList.drop k) acc k∧acc.length+pendQ st≤4*k
theorem isQ_zero (w:World) (cs:Array Value) (h:cs=(QL 0 0 0 0 0 0 none (List.replicate 64 0) 0).toArray):IsQ (w.alloc (.cells cs 191)) w.heap.size .plain []:=by
 subst h
 refine isQ_mk trivial (sg:=0) (lf:=0) (num:=0) (cnt:=0) (fst:=0) (a:=0) ⟨none,List.replicate 64 0,0,[],⟨by simp,Own.fresh _ _ _⟩,rfl,by omega,?_,?_,rfl⟩ ⟨rfl,rfl,rfl,rfl,rfl⟩ stU_zero
 ·intro v hv;simp at hv
 ·intro p hp;simp at hp
theorem zero_walk (w:World):(zeroValue 191).run Tryz.prog w=.ok (.agg (QL 0 0 0 0 0 0 none (List.replicate 64 0) 0).toArray) w:=by kernel_rfl
theorem read_three {l:List UInt8} {n k:Int} {t:List UInt8} {a b:Int} (h1:l=t) (h2:n=a) (h3:k=b) :
   Ending.returned (.tuple #[.string ⟨l.toArray⟩,.int .i64 n,.int .i64 k])=.returned (.tuple #[.string ⟨t.toArray⟩,.int .i64 a,.int .i64 b]):=by rw[h1,h2,h3]
theorem read_any (s:ByteArray) (W:World) (hs:s.size≤1000000000) :
   Calls Tryz.prog 121 #[.string s] W fun e w'=>e=.returned (.tuple #[.string ⟨(readR .plain s.data.toList [] 0).1.toArray⟩,.int .i64 (readR .plain s.data.toList [] 0).2.1,.int .i64 (readR .plain s.data.toList [] 0).2.2])∧Below W.heap.size W w':=by
 generalize hR:readR .plain s.data.toList [] 0=R
 obtain ⟨rt,rn,rk⟩:=R
 replace hR:=hid hR
 have hz0:=fun w=>zero_walk w
 generalize hz:(QL 0 0 0 0 0 0 none (List.replicate 64 0) 0).toArray=z at hz0
 replace hz:=hid hz.symm
 go_enter Tryz.func121,Tryz.ntmps121
 go_wp2
 go_loopw [9] (fun i wr=>RelRd s W wr i) (fun i _=>s.size-(intOf i).toNat)
 case atStart=>exact ⟨0,.plain,[],Nat.zero_le _,rfl,isQ_zero W _ hz.out,(by intro e;cases e),below1 W _,rfl,by simp[pendQ]⟩
 case round =>
   obtain ⟨k,st,acc,hk,rfl,hq,hnd,hbel,hrun,hacc⟩:=hrel
   rw[hR.out] at hrun
   by_cases hlt:k<s.size
   ·have hl:k<s.data.toList.length:=hlt
    have hc:s.data.toList[k]=s[k]:=rfl
    rw[List.drop_eq_getElem_cons hl,hc] at hrun
    have hstep:=step_any wr W.heap.size st acc s[k] hq
    unfold StepPost at hstep
    have hsz:=hbel.size
    have hin:=hq.inside
    cases hs:stepQ st s[k] with
    | none =>
      rw[hs] at hstep
      have hstep:Calls Tryz.prog 130 #[.pointer (some ⟨W.heap.size,0,none⟩),.int .u8 s[k].toNat] wr fun e w'=>e=.returned (.int .i64 (faultQ st s[k]))∧IsQ w' W.heap.size st acc∧Turned W.heap.size wr w':=hstep
      rw[readR_no hs] at hrun
      have hf:=faultQ_ne st s[k]
      generalize faultQ st s[k]=j at *
      have g0:(j==0)=false:=beq_eq_false_iff_ne.2 hf.2
      have g1:(j==1)=false:=beq_eq_false_iff_ne.2 hf.1
      cases hrun
      have HS:=hid hstep
      clear hstep hf hs hc
      go_wp2_with (go_at_call 130;refine HS.out.mono ?_;rintro e w1 ⟨rfl,_,ht⟩)
      go_ret3
      exact ⟨rfl,hbel.trans (ht.below (Nat.le_refl _) hsz)⟩
    | some p =>
      obtain ⟨st',x⟩:=p
      rw[hs] at hstep
      have hlen:=stepQ_len hs
      by_cases hd:st'=.done
      ·subst hd
       rw[readR_done hs] at hrun
       cases hrun
       have HS:=hid (show Calls Tryz.prog 130 #[.pointer (some ⟨W.heap.size,0,none⟩),.int .u8 s[k].toNat] wr fun e w'=>e=.returned (.int .i64 1)∧IsQ w' W.heap.size .done (acc++x)∧Turned W.heap.size wr w' from hstep)
       have hal:(acc++x).length≤1000000000000:=by simp;omega
       replace hal:=hid hal
       clear hstep hs hc hlen
       go_wp2_with (first
         | (go_at_call 130;refine HS.out.mono ?_;rintro e w1 ⟨rfl,hq1,ht⟩;have HQ:=hid hq1;have HT:=hid ht;clear hq1 ht)
         | (go_at_call 131;refine (textQ _ _ _ _ HQ.out hal.out).mono ?_;rintro e w2 ⟨rfl,hb2⟩))
       go_ret3
       have hz:=HT.out.2.2.2.1
       exact ⟨read_three rfl (by simp) rfl,(hbel.trans (HT.out.below (Nat.le_refl _) hsz)).trans (hb2.mono (by omega))⟩
      ·rw[readR_on hs hd] at hrun
       have hstep:Calls Tryz.prog 130 #[.pointer (some ⟨W.heap.size,0,none⟩),.int .u8 s[k].toNat] wr fun e w'=>e=.returned (.int .i64 (doneK st'))∧IsQ w' W.heap.size st' (acc++x)∧Turned W.heap.size wr w':=hstep
       rw[doneK_no hd] at hstep
       have HS:=hid hstep
       have HR:=hid hrun
       clear hstep hrun hs hc
       go_wp2_with (go_at_call 130;refine HS.out.mono ?_;rintro e w1 ⟨rfl,hq1,ht⟩)
       go_roundw
       case rel=>exact ⟨k+1,st',acc++x,hlt,by go_num,hq1,hd,hbel.trans (ht.below (Nat.le_refl _) hsz),by rw[hR.out];exact HR.out,by simp;omega⟩
       case measure=>simp[intOf];omega
   ·obtain rfl:k=s.size:=by omega
    rw[show s.data.toList.drop s.size=[] from List.drop_of_length_le (Nat.le_refl _)] at hrun
    cases hrun
    go_wp2
    go_ret3
    exact ⟨rfl,hbel⟩
end
end Go.Proofs.YtnokhgfifbkflaaGreat
