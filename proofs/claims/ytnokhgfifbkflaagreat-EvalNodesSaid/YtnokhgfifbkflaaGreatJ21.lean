/- Lemmas. -/
import Derived.Test.YtnokhgfifbkflaaGreatJ20
set_option maxRecDepth 100000
set_option maxHeartbeats 8000000
set_option linter.unusedVariables false
namespace Go.Proofs.YtnokhgfifbkflaaGreat
open Go.Lib (hid)
section
open Go.RowKit
theorem numW_cons (s:ByteArray) (j n:Nat) (h:j<s.size) (a:Int):numW a (s.data.toList.drop j) n=if nxI a s[j].toNat≠0 then numW (nxI a s[j].toNat) (s.data.toList.drop (j+1)) (n+1) else (n,anI a s[j].toNat,a):=by
 rw[drop_at s j h]
 rfl
def RelNb (s:ByteArray) (k:Nat) (cl:Bool) (W wr:World) (v u:Value):Prop :=
 ∃ (n:Nat) (a:Int),k+n≤s.size∧v=.int .i64 n∧u=.bool cl∧At a ((s.data.toList.drop k).take n)∧numW 0 (s.data.toList.drop k) 0=numW a (s.data.toList.drop (k+n)) n∧Mk W 2 k wr
set_option maxHeartbeats 16000000 in
theorem rnumR_any (s:ByteArray) (k:Nat) (cl:Bool) (hs:s.size≤50000) (hk:k<s.size) (W:World) (P:PartR) (hP:numberR s.data.toList cl k=P) :
   Calls Tryz.prog 91 #[.string s,.int .i64 k,.bool cl] W fun e w'=>PartP W P e w':=by
 have hsl:s.data.toList.length=s.size:=rfl
 have HB:=hid (fun (kk f:Int) (w:World)=>rbroken_any 2 k 0 ⟨#[]⟩ none 0 0 none 0 0 kk f w)
 unfold numberR at hP
 have HP:=hid hP
 clear hP
 go_enter Tryz.func91,Tryz.ntmps91
 go_wp2
 go_loopw [7,8] (fun v u wr=>RelNb s k cl W wr v u) (fun v _ _=>s.size-k-(intOf v).toNat)
 case atStart=>exact ⟨0,0,by omega,rfl,rfl,at_nil,rfl,Mk.start W 2 k⟩
 case round =>
   obtain ⟨n,a,hkn,rfl,rfl,hat,hnum,hmk⟩:=hrel
   have hxl:(s.extract k (k+n)).data.toList=(s.data.toList.drop k).take n:=part_is s k n
   have hxz:(s.extract k (k+n)).size=n:=by rw[ByteArray.size_extract];omega
   have hdl:(s.data.toList.drop k).length=s.size-k:=by rw[List.length_drop,hsl]
   by_cases hlt:k+n<s.size
   ·rw [numW_cons s (k+n) n hlt] at hnum
    have HS:=fun w=>rstep_at (s.extract k (k+n)) s[k+n] a (by rw[hxl];exact hat) w (by rw[hxz];omega)
    have hmd:=hmk.drew
    by_cases hok:nxI a s[k+n].toNat=0
    ·rw [if_neg (fun h=>h hok)] at hnum
     have han:anI a s[k+n].toNat=1∧whI a=true∨anI a s[k+n].toNat=2:=by
       unfold anI
       rw[if_neg (fun h=>h hok)]
       by_cases hw:(whI a && !stickI s[k+n].toNat)=true
       ·rw[if_pos hw];exact .inl ⟨rfl,(Bool.and_eq_true _ _▸hw).1⟩
       ·rw[if_neg hw];exact .inr rfl
     rcases han with ⟨han,hwh⟩|han
     ·rw [han] at hnum HS
      rw[hnum] at HP
      rw[if_neg (show ¬ (1:Int)=2 by decide),if_neg (by rintro (⟨_,h⟩|h);exact absurd (show (1:Int)=0 from h) (by decide);rw[show whI a=true from hwh] at h;cases h)] at HP
      have hi:=fun w=>ris_any (s.extract k (k+n)) w (by rw[hxz];omega)
      rw[hxl,at_is hat,hwh] at hi
      have HI:=hid hi
      have HX:=hid hxl
      have HS:=hid HS
      have HM:=hid hmd
      clear hat hnum hok hmk hmd hxl hi
      go_wp2
      have hwk:IntKind.i64.wrap ((k:Int)+n)=(k:Int)+n:=by rw[IntKind.wrap_i64];omega
      have hw0:(0:Int)≤(k:Int)+n:=by omega
      have hw1:(k:Int)+n≤s.size:=by omega
      have hw2:(k:Int)≤(k:Int)+n:=by omega
      have hw3:((k:Int)+n).toNat=k+n:=by omega
      go_still_tail 11,(by kernel_rfl)
      change wpList _ _ _ _ _ wr.drew
      go_upto_region 15 with (first
        | (go_at_call 114
           go_must (
             refine (HS.out _).mono ?_
             rintro e w3 ⟨rfl,hb⟩
             have M3:=HM.out.stay hb
             obtain ⟨v0,v1,v2,v3,v4,v5,u0,u1,u2,u3,u4,u5⟩:=leaf_facts M3.val
             clear hb))
        | (go_at_call 115;refine (HI.out _).mono ?_;rintro e w' ⟨rfl,rfl⟩))
      have M5:=M3.done ((k:Int)+n) (s.extract k (k+n)) ((k:Int)+n)
      obtain ⟨p0,p1,p2,p3,p4,p5,p6,p7,p8,f0,f1,f2,f3,f4,f5,f6,f7,f8⟩:=nine_facts ((M3.part.past (p:=⟨W.heap.size+1,2,none⟩) (by simp) (.int .i64 ((k:Int)+n))).past (p:=⟨W.heap.size+1,3,none⟩) (by simp) (.string (s.extract k (k+n))))
      obtain ⟨hO,hT⟩:=M5
      unfold put9 at hO hT
      have HO:=hid hO
      have HT:=hid hT
      clear hO hT
      go_wp2
      refine bodyPost_ret (results_cell_row rfl _ _ W.heap.size _ _ (0,0) _ rfl HO.out Tryz.underlying125 rfl part_size) rfl ?_
      rw[← HP.out]
      exact ⟨leafV 2 k (k+n) ((s.data.toList.drop k).take n),(by rw[← HX.out];rfl),(fun _ _=>leaf_is _ _ _ _ _),HT.out⟩
     ·rw [han] at hnum HS
      rw[hnum] at HP
      rw[if_pos rfl] at HP
      have HS:=hid HS
      have HM:=hid hmd
      clear hat hnum hok hmk hmd hxl
      go_wp2
      have hwk:IntKind.i64.wrap ((k:Int)+n)=(k:Int)+n:=by rw[IntKind.wrap_i64];omega
      have hw0:(0:Int)≤(k:Int)+n:=by omega
      have hw1:(k:Int)+n≤s.size:=by omega
      have hw2:(k:Int)≤(k:Int)+n:=by omega
      have hw3:((k:Int)+n).toNat=k+n:=by omega
      go_still_tail 11,(by kernel_rfl)
      change wpList _ _ _ _ _ wr.drew
      go_wp2_with (first
        | (go_at_call 114
           go_must (
             refine (HS.out _).mono ?_
             rintro e w3 ⟨rfl,hb⟩
             have M3:=HM.out.stay hb
             obtain ⟨v0,v1,v2,v3,v4,v5,u0,u1,u2,u3,u4,u5⟩:=leaf_facts M3.val))
        | (go_at_call 113
           go_must (
             refine (HB.out 5 ((k:Int)+n) _).mono ?_
             rintro e w4 ⟨rfl,hb4⟩
             obtain ⟨o4,hO,hT⟩:=M3.broke hb4 5 ((k:Int)+n)
             obtain ⟨p0,p1,p2,p3,p4,p5,p6,p7,p8,f0,f1,f2,f3,f4,f5,f6,f7,f8⟩:=nine_facts o4
             unfold put9 at hO hT
             have HO:=hid hO
             have HT:=hid hT
             clear hO hT o4 M3 hb hb4)))
      refine bodyPost_ret (results_cell_row rfl _ _ W.heap.size _ _ (0,0) _ rfl HO.out Tryz.underlying125 rfl part_size) rfl ?_
      rw[← HP.out]
      exact ⟨leafV 2 k 0 [],rfl,(fun _ _=>leaf_is _ _ _ _ _),HT.out⟩
    ·rw[if_pos hok] at hnum
     rw[an_zero hok] at HS
     have hat':=at_take n (by omega) hat (by rw[List.getElem_drop];exact hok)
     rw[List.getElem_drop] at hat'
     have HS:=hid HS
     have HR:=hid hnum
     have HA:=hid hat'
     have HM:=hid hmd
     clear hat hnum hmk hmd hxl hat'
     go_wp2
     have hwk:IntKind.i64.wrap ((k:Int)+n)=(k:Int)+n:=by rw[IntKind.wrap_i64];omega
     have hw0:(0:Int)≤(k:Int)+n:=by omega
     have hw1:(k:Int)+n≤s.size:=by omega
     have hw2:(k:Int)≤(k:Int)+n:=by omega
     have hw3:((k:Int)+n).toNat=k+n:=by omega
     go_still_tail 11,(by kernel_rfl)
     change wpList _ _ _ _ _ wr.drew
     go_wp2_with (go_at_call 114;refine (HS.out _).mono ?_;rintro e w3 ⟨rfl,hb⟩)
     go_roundw
     case rel=>exact ⟨n+1,_,by omega,by go_num,rfl,HA.out,HR.out,HM.out.stay hb⟩
     case measure=>simp[intOf];omega
   ·rw [drop_none s (k+n) (by omega)] at hnum
    have hnum:numW 0 (s.data.toList.drop k) 0=(n,0,a):=hnum
    rw[hnum] at HP
    rw[if_neg (show ¬ (0:Int)=2 by decide)] at HP
    have hi:=fun w=>ris_any (s.extract k (k+n)) w (by rw[hxz];omega)
    rw[hxl,at_is hat] at hi
    have HX:=hid hxl
    have M3:=hmk
    obtain ⟨v0,v1,v2,v3,v4,v5,u0,u1,u2,u3,u4,u5⟩:=leaf_facts M3.val
    cases cl
    ·rw [if_pos (.inl ⟨rfl,rfl⟩)] at HP
     clear hat hnum hmk hxl hi
     go_wp2_with (first
       | (go_at_call 113
          go_must (
            refine (HB.out 10 s.size _).mono ?_
            rintro e w4 ⟨rfl,hb4⟩
            obtain ⟨o4,hO,hT⟩:=M3.broke hb4 10 s.size
            obtain ⟨p0,p1,p2,p3,p4,p5,p6,p7,p8,f0,f1,f2,f3,f4,f5,f6,f7,f8⟩:=nine_facts o4
            unfold put9 at hO hT
            have HO:=hid hO
            have HT:=hid hT
            clear hO hT o4 M3 hb4)))
     refine bodyPost_ret (results_cell_row rfl _ _ W.heap.size _ _ (0,0) _ rfl HO.out Tryz.underlying125 rfl part_size) rfl ?_
     rw[← HP.out]
     exact ⟨leafV 2 k 0 [],rfl,(fun _ _=>leaf_is _ _ _ _ _),HT.out⟩
    ·cases hwh : whI a
     ·rw [hwh] at hi
      rw[if_pos (.inr hwh)] at HP
      have HI:=hid hi
      clear hat hnum hmk hxl hi hwh
      go_wp2_with (first
        | (go_at_call 115;refine (HI.out _).mono ?_;rintro e w' ⟨rfl,rfl⟩)
        | (go_at_call 113
           go_must (
             refine (HB.out 10 s.size _).mono ?_
             rintro e w4 ⟨rfl,hb4⟩
             obtain ⟨o4,hO,hT⟩:=M3.broke hb4 10 s.size
             obtain ⟨p0,p1,p2,p3,p4,p5,p6,p7,p8,f0,f1,f2,f3,f4,f5,f6,f7,f8⟩:=nine_facts o4
             unfold put9 at hO hT
             have HO:=hid hO
             have HT:=hid hT
             clear hO hT o4 M3 hb4)))
      refine bodyPost_ret (results_cell_row rfl _ _ W.heap.size _ _ (0,0) _ rfl HO.out Tryz.underlying125 rfl part_size) rfl ?_
      rw[← HP.out]
      exact ⟨leafV 2 k 0 [],rfl,(fun _ _=>leaf_is _ _ _ _ _),HT.out⟩
     ·rw[hwh] at hi
      rw[if_neg (by rintro (⟨h,_⟩|h);cases h;rw[hwh] at h;cases h)] at HP
      have HI:=hid hi
      clear hat hnum hmk hxl hi hwh
      obtain ⟨v0,v1,v2,v3,v4,v5,u0,u1,u2,u3,u4,u5⟩:=leaf_facts M3.val
      go_upto_region 15 with (go_at_call 115;refine (HI.out _).mono ?_;rintro e w' ⟨rfl,rfl⟩)
      have M5:=M3.done ((k:Int)+n) (s.extract k (k+n)) ((k:Int)+n)
      obtain ⟨p0,p1,p2,p3,p4,p5,p6,p7,p8,f0,f1,f2,f3,f4,f5,f6,f7,f8⟩:=nine_facts ((M3.part.past (p:=⟨W.heap.size+1,2,none⟩) (by simp) (.int .i64 ((k:Int)+n))).past (p:=⟨W.heap.size+1,3,none⟩) (by simp) (.string (s.extract k (k+n))))
      obtain ⟨hO,hT⟩:=M5
      unfold put9 at hO hT
      have HO:=hid hO
      have HT:=hid hT
      clear hO hT
      go_wp2
      refine bodyPost_ret (results_cell_row rfl _ _ W.heap.size _ _ (0,0) _ rfl HO.out Tryz.underlying125 rfl part_size) rfl ?_
      rw[← HP.out]
      exact ⟨leafV 2 k (k+n) ((s.data.toList.drop k).take n),(by rw[← HX.out];rfl),(fun _ _=>leaf_is _ _ _ _ _),HT.out⟩
end
section
open Go.RowKit
theorem rkindR_at (x:ByteArray) (h:refL x.data.toList=1) (w:World) :
   Calls Tryz.prog 117 #[.string x] w fun e w'=>e=.returned (.tuple #[.int .i64 (if x.data.toList=lN then 0 else 1),.bool true])∧w=w':=by
 rcases ref_one h with h|h|h
 ·obtain rfl:x=wT:=ba_ext h
  rw[if_neg (by rw[h];decide)]
  exact rkind_t w
 ·obtain rfl:x=wF:=ba_ext h
  rw[if_neg (by rw[h];decide)]
  exact rkind_f w
 ·obtain rfl:x=wN:=ba_ext h
  rw[if_pos h]
  exact rkind_n w
theorem wordW_cons (s:ByteArray) (j:Nat) (h:j<s.size) (p:List UInt8):wordW p (s.data.toList.drop j)=if refL (p++[s[j]])=0 then wordW (p++[s[j]]) (s.data.toList.drop (j+1)) else (p.length,refL (p++[s[j]])):=by
 rw[drop_at s j h]
 rfl
theorem refL_cases (l:List UInt8):refL l=0∨refL l=1∨refL l=2:=by
 unfold refL
 have a:=hit_cases lT l
 have b:=hit_cases lF l
 have c:=hit_cases lN l
 (repeat' split)<;>omega
theorem wtake_snoc (s:ByteArray) (k n:Nat) (h:k+n<s.size):(s.data.toList.drop k).take n++[s[k+n]]=(s.data.toList.drop k).take (n+1):=by
 have hl:n<(s.data.toList.drop k).length:=by rw[List.length_drop];show n<s.size-k;omega
 rw[List.take_succ_eq_append_getElem hl,List.getElem_drop]
 rfl
theorem Mk.word {W w:World} {kd fr:Int} (h:Mk W kd fr w) (kd' t:Int) (tx:ByteArray) (k:Int) :
   Own (put9 (((w.setCell ⟨W.heap.size+1,3,none⟩ (.string tx)).setCell ⟨W.heap.size+1,2,none⟩ (.int .i64 t)).setCell ⟨W.heap.size+1,0,none⟩ (.int .i64 kd')) W.heap.size kd' fr t tx none 0 0 none 0 0 true k 0) W.heap.size 125 (cells9 kd' fr t tx none 0 0 none 0 0 true k 0) ∧
   Below W.heap.size W (put9 (((w.setCell ⟨W.heap.size+1,3,none⟩ (.string tx)).setCell ⟨W.heap.size+1,2,none⟩ (.int .i64 t)).setCell ⟨W.heap.size+1,0,none⟩ (.int .i64 kd')) W.heap.size kd' fr t tx none 0 0 none 0 0 true k 0) :=
 ⟨put9_own (((h.part.past (by simp) _).past (by simp) _).past (by simp) _) _ _ _ _ _ _ _ _ _ _ _ _ _,
  put9_below (((h.bel.setCell (p:=⟨W.heap.size+1,3,none⟩) (Nat.le_succ _) _).setCell (p:=⟨W.heap.size+1,2,none⟩) (Nat.le_succ _) _).setCell (p:=⟨W.heap.size+1,0,none⟩) (Nat.le_succ _) _) _ _ _ _ _ _ _ _ _ _ _ _ _⟩
def RelWd (s:ByteArray) (k:Nat) (W wr:World) (v:Value):Prop :=
 ∃ n:Nat,k+n≤s.size∧v=.int .i64 n∧wordW [] (s.data.toList.drop k)=wordW ((s.data.toList.drop k).take n) (s.data.toList.drop (k+n))∧Mk W 0 k wr
set_option maxHeartbeats 16000000 in
theorem rwordR_any (s:ByteArray) (k:Nat) (hs:s.size≤50000) (hk:k<s.size) (W:World) (P:PartR) (hP:wordR s.data.toList k=P) :
   Calls Tryz.prog 92 #[.string s,.int .i64 k] W fun e w'=>PartP W P e w':=by
 have hsl:s.data.toList.length=s.size:=rfl
 have HB:=hid (fun (kk f:Int) (w:World)=>rbroken_any 0 k 0 ⟨#[]⟩ none 0 0 none 0 0 kk f w)
 unfold wordR at hP
 have HP:=hid hP
 clear hP
 go_enter Tryz.func92,Tryz.ntmps92
 go_wp2
 go_loopw [6] (fun v wr=>RelWd s k W wr v) (fun v _=>s.size-k-(intOf v).toNat)
 case atStart=>exact ⟨0,by omega,rfl,rfl,Mk.start W 0 k⟩
 case round =>
   obtain ⟨n,hkn,rfl,hww,hmk⟩:=hrel
   have hxl:(s.extract k (k+n)).data.toList=(s.data.toList.drop k).take n:=part_is s k n
   have hxz:(s.extract k (k+n)).size=n:=by rw[ByteArray.size_extract];omega
   have hdl:(s.data.toList.drop k).length=s.size-k:=by rw[List.length_drop,hsl]
   have htl:((s.data.toList.drop k).take n).length=n:=by rw[List.length_take,hdl];omega
   by_cases hlt:k+n<s.size
   ·rw [wordW_cons s (k+n) hlt,wtake_snoc s k n hlt,htl] at hww
    have HS:=fun w=>rstep_any (s.extract k (k+n)) s[k+n] w (by rw[hxz];omega)
    rw[hxl,wtake_snoc s k n hlt] at HS
    have hmd:=hmk.drew
    rcases refL_cases ((s.data.toList.drop k).take (n+1)) with h0|h1|h2
    ·rw[if_pos h0] at hww
     rw[h0] at HS
     have HS:=hid HS
     have HR:=hid hww
     have HM:=hid hmd
     clear hww hmk hmd hxl h0 htl
     go_wp2
     have hwk:IntKind.i64.wrap ((k:Int)+n)=(k:Int)+n:=by rw[IntKind.wrap_i64];omega
     have hw0:(0:Int)≤(k:Int)+n:=by omega
     have hw1:(k:Int)+n≤s.size:=by omega
     have hw2:(k:Int)≤(k:Int)+n:=by omega
     have hw3:((k:Int)+n).toNat=k+n:=by omega
     go_still_tail 11,(by kernel_rfl)
     change wpList _ _ _ _ _ wr.drew
     go_wp2_with (go_at_call 116;refine (HS.out _).mono ?_;rintro e w3 ⟨rfl,hb⟩)
     go_roundw
     case rel=>exact ⟨n+1,by omega,by go_num,HR.out,HM.out.stay hb⟩
     case measure=>simp[intOf];omega
    ·have hyl:(s.extract k (k+n+1)).data.toList=(s.data.toList.drop k).take (n+1):=part_is s k (n+1)
     have HK:=fun w=>rkindR_at (s.extract k (k+n+1)) (by rw[hyl];exact h1) w
     rw[hyl] at HK
     have HY:=hid hyl
     rw[h1] at hww HS
     rw[if_neg (by decide)] at hww
     rw[hww] at HP
     rw[if_neg (show ¬ (1:Int)=2 by decide),if_neg (show ¬ (1:Int)=0 by decide)] at HP
     obtain ⟨kd,hkd⟩:∃ kd:Int,(if (s.data.toList.drop k).take (n+1)=lN then (0:Int) else 1)=kd:=⟨_,rfl⟩
     have hP2:(⟨.mk kd k (k+n+1) ((s.data.toList.drop k).take (n+1)) [] [],true,k+n+1,0⟩:PartR)=P:=by rw[← hkd];exact HP.out
     have HP2:=hid hP2
     rw[hkd] at HK
     have HK:=hid HK
     have HS:=hid HS
     have HM:=hid hmd
     clear hww hmk hmd hxl h1 htl hyl hkd hP2 HP
     go_wp2
     have hwk:IntKind.i64.wrap ((k:Int)+n)=(k:Int)+n:=by rw[IntKind.wrap_i64];omega
     have hw0:(0:Int)≤(k:Int)+n:=by omega
     have hw1:(k:Int)+n≤s.size:=by omega
     have hw2:(k:Int)≤(k:Int)+n:=by omega
     have hw3:((k:Int)+n).toNat=k+n:=by omega
     go_still_tail 11,(by kernel_rfl)
     change wpList _ _ _ _ _ wr.drew
     go_upto_region 12 with (first
       | (go_at_call 116
          go_must (
            refine (HS.out _).mono ?_
            rintro e w3 ⟨rfl,hb⟩
            have M3:=HM.out.stay hb
            obtain ⟨v0,v1,v2,v3,v4,v5,u0,u1,u2,u3,u4,u5⟩:=leaf_facts M3.val
            clear hb))
       | (go_at_call 117;refine (HK.out _).mono ?_;rintro e w' ⟨rfl,rfl⟩))
     have M5:=M3.word kd ((k:Int)+n+1) (s.extract k (k+n+1)) ((k:Int)+n+1)
     obtain ⟨p0,p1,p2,p3,p4,p5,p6,p7,p8,f0,f1,f2,f3,f4,f5,f6,f7,f8⟩:=nine_facts (((M3.part.past (p:=⟨W.heap.size+1,3,none⟩) (by simp) (.string (s.extract k (k+n+1)))).past (p:=⟨W.heap.size+1,2,none⟩) (by simp) (.int .i64 ((k:Int)+n+1))).past (p:=⟨W.heap.size+1,0,none⟩) (by simp) (.int .i64 kd))
     obtain ⟨hO,hT⟩:=M5
     unfold put9 at hO hT
     have HO:=hid hO
     have HT:=hid hT
     clear hO hT
     go_wp2
     refine bodyPost_ret (results_cell_row rfl _ _ W.heap.size _ _ (0,0) _ rfl HO.out Tryz.underlying125 rfl part_size) rfl ?_
     rw[← HP2.out]
     exact ⟨leafV kd k (k+n+1) ((s.data.toList.drop k).take (n+1)),(by rw[← HY.out];rfl),(fun _ _=>leaf_is _ _ _ _ _),HT.out⟩
    ·rw [h2] at hww HS
     rw[if_neg (by decide)] at hww
     rw[hww] at HP
     rw[if_pos rfl] at HP
     have HS:=hid HS
     have HM:=hid hmd
     clear hww hmk hmd hxl h2 htl
     go_wp2
     have hwk:IntKind.i64.wrap ((k:Int)+n)=(k:Int)+n:=by rw[IntKind.wrap_i64];omega
     have hw0:(0:Int)≤(k:Int)+n:=by omega
     have hw1:(k:Int)+n≤s.size:=by omega
     have hw2:(k:Int)≤(k:Int)+n:=by omega
     have hw3:((k:Int)+n).toNat=k+n:=by omega
     go_still_tail 11,(by kernel_rfl)
     change wpList _ _ _ _ _ wr.drew
     go_wp2_with (first
       | (go_at_call 116
          go_must (
            refine (HS.out _).mono ?_
            rintro e w3 ⟨rfl,hb⟩
            have M3:=HM.out.stay hb
            obtain ⟨v0,v1,v2,v3,v4,v5,u0,u1,u2,u3,u4,u5⟩:=leaf_facts M3.val))
       | (go_at_call 113
          go_must (
            refine (HB.out 6 ((k:Int)+n) _).mono ?_
            rintro e w4 ⟨rfl,hb4⟩
            obtain ⟨o4,hO,hT⟩:=M3.broke hb4 6 ((k:Int)+n)
            obtain ⟨p0,p1,p2,p3,p4,p5,p6,p7,p8,f0,f1,f2,f3,f4,f5,f6,f7,f8⟩:=nine_facts o4
            unfold put9 at hO hT
            have HO:=hid hO
            have HT:=hid hT
            clear hO hT o4 M3 hb hb4)))
     refine bodyPost_ret (results_cell_row rfl _ _ W.heap.size _ _ (0,0) _ rfl HO.out Tryz.underlying125 rfl part_size) rfl ?_
     rw[← HP.out]
     exact ⟨leafV 0 k 0 [],rfl,(fun _ _=>leaf_is _ _ _ _ _),HT.out⟩
   ·rw [drop_none s (k+n) (by omega)] at hww
    have hww:wordW [] (s.data.toList.drop k)=(n,0):=by rw[hww];show (((s.data.toList.drop k).take n).length,_)=_;rw[htl]
    rw[hww] at HP
    rw[if_neg (show ¬ (0:Int)=2 by decide),if_pos rfl] at HP
    have M3:=hmk
    obtain ⟨v0,v1,v2,v3,v4,v5,u0,u1,u2,u3,u4,u5⟩:=leaf_facts M3.val
    clear hww hmk hxl htl
    go_wp2_with (first
      | (go_at_call 113
         go_must (
           refine (HB.out 10 s.size _).mono ?_
           rintro e w4 ⟨rfl,hb4⟩
           obtain ⟨o4,hO,hT⟩:=M3.broke hb4 10 s.size
           obtain ⟨p0,p1,p2,p3,p4,p5,p6,p7,p8,f0,f1,f2,f3,f4,f5,f6,f7,f8⟩:=nine_facts o4
           unfold put9 at hO hT
           have HO:=hid hO
           have HT:=hid hT
           clear hO hT o4 M3 hb4)))
    refine bodyPost_ret (results_cell_row rfl _ _ W.heap.size _ _ (0,0) _ rfl HO.out Tryz.underlying125 rfl part_size) rfl ?_
    rw[← HP.out]
    exact ⟨leafV 0 k 0 [],rfl,(fun _ _=>leaf_is _ _ _ _ _),HT.out⟩
end
section
open Go.RowKit
def PBd (n k:Nat)(p:PartR):Prop:=p.pt≤n∧(p.fault=0→k≤p.pt∧p.beg=true)
theorem PBd.brk {n k:Nat}{kd:Int}{fr:Nat}{ts:List Tree}{ns:List (List UInt8)}{f:Int}{pt:Nat}(h:pt≤n)(hf:f≠0):PBd n k (brkR10 kd fr ts ns f pt):=⟨h,fun e=>absurd e hf⟩
theorem PBd.well {n k:Nat}{t:Tree}{pt:Nat}(h:pt≤n)(hk:k≤pt):PBd n k ⟨t,true,pt,0⟩:=⟨h,fun _=>⟨hk,rfl⟩⟩
theorem scanL_bd (l:List UInt8):(scanL l).2.1≤l.length:=(scanR_bd l.length l).1
theorem quotedR_bd (l:List UInt8) (k:Nat) (hk:k<l.length):PBd l.length k (quotedR l k):=by
 have hb:=scanL_bd (l.drop (k+1))
 rw[List.length_drop] at hb
 unfold quotedR
 split
 ·exact .brk (Nat.le_refl _) (by decide)
 ·split
  ·rename_i h1 h2
   exact .brk (by omega) h1
  ·exact .well (by omega) (by omega)
theorem numW_bd:∀ (l:List UInt8) (a:Int) (k:Nat),k≤(numW a l k).1∧(numW a l k).1≤k+l.length
 | [],a,k=>⟨Nat.le_refl _,Nat.le_add_right _ _⟩
 | c :: t,a,k=>by
   unfold numW
   split
   ·have:=numW_bd t (nxI a c.toNat) (k+1)
    simp only [List.length_cons]
    omega
   ·exact ⟨Nat.le_refl _,Nat.le_add_right _ _⟩
theorem numberR_bd (l:List UInt8) (cl:Bool) (k:Nat) (hk:k<l.length):PBd l.length k (numberR l cl k):=by
 have hb:=numW_bd (l.drop k) 0 0
 rw[List.length_drop] at hb
 unfold numberR
 split
 ·exact .brk (by omega) (by decide)
 ·split
  ·exact .brk (Nat.le_refl _) (by decide)
  ·exact .well (by omega) (by omega)
theorem wordW_bd:∀ (l p:List UInt8),(wordW p l).1≤p.length+l.length∧((wordW p l).2≠0→(wordW p l).1<p.length+l.length)
 | [],p=>⟨by unfold wordW;simp,fun h=>absurd rfl h⟩
 | c :: t,p=>by
   unfold wordW
   split
   ·have:=wordW_bd t (p++[c])
    simp only [List.length_append,List.length_cons,List.length_nil] at this ⊢
    refine ⟨by omega,fun h=>by have:=this.2 h;omega⟩
   ·simp only [List.length_cons]
    exact ⟨by omega,fun _=>by omega⟩
theorem wordR_bd (l:List UInt8) (k:Nat) (hk:k<l.length):PBd l.length k (wordR l k):=by
 have hb:=wordW_bd (l.drop k) []
 rw[List.length_drop,List.length_nil] at hb
 unfold wordR
 split
 ·exact .brk (by omega) (by decide)
 ·split
  ·exact .brk (Nat.le_refl _) (by decide)
  ·rename_i h1 h2
   have:=hb.2 h2
   exact .well (by omega) (by omega)
theorem arrGo_bd (l:List UInt8) (sm:Nat→PartR) (hsm:∀ k,k<l.length→PBd l.length k (sm k)) (fr:Nat):∀ (f k:Nat) (items:List Tree),PBd l.length k (arrGo l sm fr f k items)
 | 0,k,items=>.brk (Nat.le_refl _) (by decide)
 | f + 1, k, items=>by
   unfold arrGo
   split
   ·exact .brk (Nat.le_refl _) (by decide)
   ·rename_i hk
    have hb:=hsm k (by omega)
    split
    ·rename_i h
     exact .brk hb.1 h
    ·rename_i h
     have h0:(sm k).fault=0:=Classical.not_not.1 h
     have hk2:=(hb.2 h0).1
     have hbl:=blankR_le l (sm k).pt hb.1
     split
     ·exact .brk (Nat.le_refl _) (by decide)
     ·split
      ·exact .well (by omega) (by omega)
      ·split
       ·exact .brk (by omega) (by decide)
       ·have hbl2:=blankR_le l (blankR l (sm k).pt+1) (by omega)
        have:=arrGo_bd l sm hsm fr f (blankR l (blankR l (sm k).pt+1)) (if (sm k).beg=true then items++[(sm k).val] else items)
        exact ⟨this.1,fun e=>⟨by have:=(this.2 e).1;omega,(this.2 e).2⟩⟩
theorem arrR_bd (l:List UInt8) (sm:Nat→PartR) (hsm:∀ k,k<l.length→PBd l.length k (sm k)) (k:Nat) (hk:k<l.length):PBd l.length k (arrR l sm k):=by
 have hbl:=blankR_le l (k+1) (by omega)
 unfold arrR
 split
 ·rename_i h
  exact .well (by omega) (by omega)
 ·have:=arrGo_bd l sm hsm k (l.length+1-blankR l (k+1)) (blankR l (k+1)) []
  exact ⟨this.1,fun e=>⟨by have:=(this.2 e).1;omega,(this.2 e).2⟩⟩
theorem nameR_bd (l:List UInt8) (k:Nat):(∀ f p,nameR10 l k=(none,f,p)→f≠0∧p≤l.length)∧(∀ nm v r,nameR10 l k=(some (nm,v),r)→k<v∧v<l.length):=by
 unfold nameR10
 split
 ·exact ⟨fun f p e=>by cases e;exact ⟨by decide,Nat.le_refl _⟩,fun nm v r e=>by cases e⟩
 rename_i hk
 split
 ·exact ⟨fun f p e=>by cases e;exact ⟨by decide,by omega⟩,fun nm v r e=>by cases e⟩
 have hb:=quotedR_bd l k (by omega)
 split
 ·rename_i h
  exact ⟨fun f p e=>by cases e;exact ⟨h,hb.1⟩,fun nm v r e=>by cases e⟩
 rename_i h
 have h0:(quotedR l k).fault=0:=Classical.not_not.1 h
 have hk2:=(hb.2 h0).1
 have hbl:=blankR_le l (quotedR l k).pt hb.1
 split
 ·exact ⟨fun f p e=>by cases e;exact ⟨by decide,Nat.le_refl _⟩,fun nm v r e=>by cases e⟩
 split
 ·exact ⟨fun f p e=>by cases e;exact ⟨by decide,hbl.2⟩,fun nm v r e=>by cases e⟩
 have hbl2:=blankR_le l (blankR l (quotedR l k).pt+1) (by omega)
 split
 ·exact ⟨fun f p e=>by cases e;exact ⟨by decide,Nat.le_refl _⟩,fun nm v r e=>by cases e⟩
 ·exact ⟨fun f p e=>(by cases e),fun nm v r e=>by cases e;exact ⟨by omega,by omega⟩⟩
theorem objGo_bd (l:List UInt8) (sm:Nat→PartR) (hsm:∀ k,k<l.length→PBd l.length k (sm k)) (fr:Nat):∀ (f k:Nat) (items:List Tree) (names:List (List UInt8)),PBd l.length k (objGo l sm fr f k items names)
 | 0,k,items,names=>.brk (Nat.le_refl _) (by decide)
 | f + 1, k, items,names=>by
   have hn:=nameR_bd l k
   unfold objGo
   rcases hr:nameR10 l k with ⟨_|⟨nm,v⟩,r⟩
   ·obtain ⟨h1,h2⟩:=hn.1 r.1 r.2 hr
    exact .brk h2 h1
   ·obtain ⟨hk,hk2⟩:=hn.2 nm v r hr
    show PBd _ _ (if (sm v).fault≠0 then _ else _)
    have hb:=hsm v hk2
    split
    ·rename_i h
     exact .brk hb.1 h
    ·rename_i h
     have h0:(sm v).fault=0:=Classical.not_not.1 h
     have hk3:=(hb.2 h0).1
     have hbl:=blankR_le l (sm v).pt hb.1
     split
     ·exact .brk (Nat.le_refl _) (by decide)
     ·split
      ·exact .well (by omega) (by omega)
      ·split
       ·exact .brk (by omega) (by decide)
       ·have hbl2:=blankR_le l (blankR l (sm v).pt+1) (by omega)
        have:=objGo_bd l sm hsm fr f (blankR l (blankR l (sm v).pt+1)) (if (sm v).beg=true then items++[(sm v).val] else items) (if (sm v).beg=true then names++[nm] else names)
        exact ⟨this.1,fun e=>⟨by have:=(this.2 e).1;omega,(this.2 e).2⟩⟩
theorem objR_bd (l:List UInt8) (sm:Nat→PartR) (hsm:∀ k,k<l.length→PBd l.length k (sm k)) (k:Nat) (hk:k<l.length):PBd l.length k (objR l sm k):=by
 have hbl:=blankR_le l (k+1) (by omega)
 unfold objR
 split
 ·rename_i h
  exact .well (by omega) (by omega)
 ·have:=objGo_bd l sm hsm k (l.length+1-blankR l (k+1)) (blankR l (k+1)) [] []
  exact ⟨this.1,fun e=>⟨by have:=(this.2 e).1;omega,(this.2 e).2⟩⟩
theorem someR_bd (l:List UInt8) (cl:Bool):∀ (n k:Nat),k<l.length→PBd l.length k (someR l cl n k)
 | 0, k, hk=>by
   unfold someR
   split
   ·exact quotedR_bd l k hk
   split
   ·exact numberR_bd l cl k hk
   split
   ·exact wordR_bd l k hk
   ·exact ⟨Nat.le_of_lt hk,fun e=>by
      exfalso
      revert e
      show ¬ (if _ then (12:Int) else 8)=0
      split<;>decide⟩
 | n+1,k,hk=>by
   unfold someR
   split
   ·exact quotedR_bd l k hk
   split
   ·exact numberR_bd l cl k hk
   split
   ·exact wordR_bd l k hk
   split
   ·exact arrR_bd l _ (someR_bd l cl n) k hk
   split
   ·exact objR_bd l _ (someR_bd l cl n) k hk
   ·exact ⟨Nat.le_of_lt hk,fun e=>absurd e (show ¬ (8:Int)=0 by decide)⟩
end
section
open Go.RowKit
theorem GRow.rd_at {α:Type} {K:RowK α} {w u:World} {base m c:Nat} {A:Option Addr} {l:List α} (h:GRow K w base (.slice A m c) l) (hk:∀ g,(Value.slice A m c).ownBlock=some g→u.heap[g]?=w.heap[g]?):RdG K u A l.length l :=
 (h.stay hk).rd
theorem VLs.snocR {w:World} {t:Tree} {x:V6}:∀ {ts:List Tree} {xs:List V6},VLs w ts xs→VIs w t x→VLs w (ts++[t]) (xs++[x])
 | [],xs,h,hx=>by
   unfold VLs at h
   subst h
   show VLs w [t] [x]
   unfold VLs
   exact ⟨x,[],rfl,hx,by unfold VLs;rfl⟩
 | u :: ts,xs,h,hx=>by
   unfold VLs at h
   obtain ⟨y,r,rfl,h1,h2⟩:=h
   show VLs w (u :: (ts++[t])) (y :: (r++[x]))
   unfold VLs
   exact ⟨y,_,rfl,h1,VLs.snocR h2 hx⟩
structure ArX (W w:World) (kd:Int) (fr:Nat) (A:Option Addr) (c:Nat) (B:Option Addr) (d:Nat) (ts:List Tree) (ns:List (List UInt8)) (xs:List V6):Prop where
 part:Own w W.heap.size 125 zero9
 val:Own w (W.heap.size+1) 29 #[.int .i64 kd,.int .i64 fr,.int .i64 0,.string ⟨#[]⟩,.slice A ts.length c,.slice B ns.length d]
 bel:Below W.heap.size W w
 row:GRow valK w (W.heap.size+2) (.slice A ts.length c) xs
 kept:∀ u:World,(∀ b,W.heap.size+2≤b→b<w.heap.size→(Value.slice A ts.length c).ownBlock≠some b→(Value.slice B ns.length d).ownBlock≠some b→u.heap[b]?=w.heap[b]?)→VLs u ts xs
 nam:GRow namK w (W.heap.size+2) (.slice B ns.length d) ns
 apart:∀ g,(Value.slice A ts.length c).ownBlock=some g→(Value.slice B ns.length d).ownBlock≠some g
section
variable {W w w':World} {kd:Int} {fr:Nat} {A:Option Addr} {c:Nat} {B:Option Addr} {d:Nat} {ts:List Tree} {ns:List (List UInt8)} {xs:List V6}
theorem ArX.start (W:World) (kd:Int) (fr:Nat):ArX W ((W.alloc (.cells zero9 125)).alloc (.cells (leaf6 kd fr) 29)) kd fr none 0 none 0 [] [] []:=by
 have h:=Mk.start W kd fr
 exact ⟨h.part,h.val,h.bel,GRow.nil _ _,fun u _=>(by unfold VLs;rfl),GRow.nil _ _,fun g e=>by simp[Value.ownBlock] at e⟩
theorem ArX.big (h:ArX W w kd fr A c B d ts ns xs):W.heap.size+2≤w.heap.size:=h.val.inside
theorem ArX.len (h:ArX W w kd fr A c B d ts ns xs):xs.length=ts.length:=(h.kept w (fun _ _ _ _ _=>rfl)).len
theorem ArX.stay (h:ArX W w kd fr A c B d ts ns xs) (hb:Below w.heap.size w w'):ArX W w' kd fr A c B d ts ns xs :=
 ⟨h.part.stay hb h.part.inside,h.val.stay hb h.val.inside,h.bel.trans (hb.mono h.bel.size),h.row.stay (fun g e=>hb.block g (h.row.low e).2),
  fun u hu=>h.kept u (fun b h1 h2 h3 h4=>(hu b h1 (Nat.lt_of_lt_of_le h2 hb.size) h3 h4).trans (hb.block b h2)),h.nam.stay (fun g e=>hb.block g (h.nam.low e).2),h.apart⟩
theorem ArX.push {w5:World} {v':Value} {t:Tree} {x:V6} {B0 E0:Nat} (h:ArX W w kd fr A c B d ts ns xs) (hk:VKept B0 E0 w t x) (hB:W.heap.size+2≤B0) (hE:E0≤w.heap.size)
   (hA:∀ g,(Value.slice A ts.length c).ownBlock=some g→g<B0) (hN:∀ g,(Value.slice B ns.length d).ownBlock=some g→g<B0∨E0≤g)
   (hr:GRow valK w5 (W.heap.size+2) v' (xs++[x])) (hg:w.grownBy w5 (Value.slice A ts.length c).ownBlock) (hat:v'.ownBlock=(Value.slice A ts.length c).ownBlock∨v'.ownBlock=some w.heap.size) :
   ∃ A' c',v'=.slice A' (ts++[t]).length c'∧ArX W (w5.setCell ⟨W.heap.size+1,4,none⟩ v') kd fr A' c' B d (ts++[t]) ns (xs++[x]):=by
 have hlen:=h.len
 have hbig:=h.big
 obtain ⟨A',c',e',_⟩:=hr.form
 have hl:(xs++[x]).length=(ts++[t]).length:=by simp[hlen]
 rw[hl] at e'
 subst e'
 have hap:∀ g,(Value.slice A ts.length c).ownBlock=some g→W.heap.size+2≤g∧g<w.heap.size:=fun g e=>h.row.low e
 have hne:∀ b,b<W.heap.size+2→some b≠(Value.slice A ts.length c).ownBlock:=fun b hb e=>by have:=(hap b e.symm).1;omega
 have o1:Own w5 W.heap.size 125 zero9:=(hg.block _ h.part.inside (hne _ (by omega))).trans h.part
 have o2:Own w5 (W.heap.size+1) 29 #[.int .i64 kd,.int .i64 fr,.int .i64 0,.string ⟨#[]⟩,.slice A ts.length c,.slice B ns.length d]:=(hg.block _ h.val.inside (hne _ (by omega))).trans h.val
 have hset:∀ b,W.heap.size+2≤b→(w5.setCell ⟨W.heap.size+1,4,none⟩ (.slice A' (ts++[t]).length c')).heap[b]?=w5.heap[b]?:=fun b hb=>Below.heap_setCell w5 _ _ b (by show b≠W.heap.size+1;omega)
 refine ⟨A',c',rfl,⟨o1.past (by show W.heap.size≠W.heap.size+1;omega) _,?_,?_,hr.stay (fun g e=>hset g (hr.low e).1),?_,?_,?_⟩⟩
 ·have:=o2.put 4 (.slice A' (ts++[t]).length c')
  simpa using this
 ·exact (h.bel.grown hg h.bel.size (fun g e=>by have:=(hap g e).1;omega)).setCell (Nat.le_succ _) _
 ·intro u hu
  have hu':∀ b,W.heap.size+2≤b→b<w.heap.size→(Value.slice A ts.length c).ownBlock≠some b→(Value.slice B ns.length d).ownBlock≠some b→u.heap[b]?=w.heap[b]?:=by
    intro b h1 h2 h3 h4
    have h5:(Value.slice A' (ts++[t]).length c').ownBlock≠some b:=by
      rcases hat with e|e
      ·rw[e];exact h3
      ·rw[e];intro e2;have:=Option.some.inj e2;omega
    have hs:b<(w5.setCell ⟨W.heap.size+1,4,none⟩ (.slice A' (ts++[t]).length c')).heap.size:=by
      have:=hg.size
      simp[World.setCell]
      omega
    exact (hu b h1 hs h5 h4).trans ((hset b h1).trans (hg.block b h2 (fun e=>h3 e.symm)))
  have hx:VIs u t x:=hk u (fun b h1 h2=>hu' b (by omega) (by omega) (fun e=>by have:=hA b e;omega) (fun e=>by rcases hN b e with h|h<;>omega))
  exact (h.kept u hu').snocR hx
 ·refine h.nam.stay (fun g e=>(hset g (h.nam.low e).1).trans (hg.block g (h.nam.low e).2 (fun e2=>h.apart g e2.symm e)))
 ·intro g e e2
  have hlt:=(h.nam.low e2).2
  rcases hat with q|q
  ·rw[q] at e;exact h.apart g e e2
  ·rw[q] at e
   have:=Option.some.inj e
   omega
theorem ArX.pushN {w5:World} {v':Value} {nm:List UInt8} (h:ArX W w kd fr A c B d ts ns xs)
   (hr:GRow namK w5 (W.heap.size+2) v' (ns++[nm])) (hg:w.grownBy w5 (Value.slice B ns.length d).ownBlock) (hat:v'.ownBlock=(Value.slice B ns.length d).ownBlock∨v'.ownBlock=some w.heap.size) :
   ∃ B' d',v'=.slice B' (ns++[nm]).length d'∧ArX W (w5.setCell ⟨W.heap.size+1,5,none⟩ v') kd fr A c B' d' ts (ns++[nm]) xs:=by
 have hbig:=h.big
 obtain ⟨B',d',e',_⟩:=hr.form
 subst e'
 have hap:∀ g,(Value.slice B ns.length d).ownBlock=some g→W.heap.size+2≤g∧g<w.heap.size:=fun g e=>h.nam.low e
 have hne:∀ b,b<W.heap.size+2→some b≠(Value.slice B ns.length d).ownBlock:=fun b hb e=>by have:=(hap b e.symm).1;omega
 have o1:Own w5 W.heap.size 125 zero9:=(hg.block _ h.part.inside (hne _ (by omega))).trans h.part
 have o2:Own w5 (W.heap.size+1) 29 #[.int .i64 kd,.int .i64 fr,.int .i64 0,.string ⟨#[]⟩,.slice A ts.length c,.slice B ns.length d]:=(hg.block _ h.val.inside (hne _ (by omega))).trans h.val
 have hset:∀ b,W.heap.size+2≤b→(w5.setCell ⟨W.heap.size+1,5,none⟩ (.slice B' (ns++[nm]).length d')).heap[b]?=w5.heap[b]?:=fun b hb=>Below.heap_setCell w5 _ _ b (by show b≠W.heap.size+1;omega)
 refine ⟨B',d',rfl,⟨o1.past (by show W.heap.size≠W.heap.size+1;omega) _,?_,?_,?_,?_,hr.stay (fun g e=>hset g (hr.low e).1),?_⟩⟩
 ·have:=o2.put 5 (.slice B' (ns++[nm]).length d')
  simpa using this
 ·exact (h.bel.grown hg h.bel.size (fun g e=>by have:=(hap g e).1;omega)).setCell (Nat.le_succ _) _
 ·exact h.row.stay (fun g e=>(hset g (h.row.low e).1).trans (hg.block g (h.row.low e).2 (fun e2=>h.apart g e e2.symm)))
 ·intro u hu
  refine h.kept u (fun b h1 h2 h3 h4 => ?_)
  have h5:(Value.slice B' (ns++[nm]).length d').ownBlock≠some b:=by
    rcases hat with e|e
    ·rw[e];exact h4
    ·rw[e];intro e2;have:=Option.some.inj e2;omega
  have hs:b<(w5.setCell ⟨W.heap.size+1,5,none⟩ (.slice B' (ns++[nm]).length d')).heap.size:=by
    have:=hg.size
    simp[World.setCell]
    omega
  exact (hu b h1 hs h3 h5).trans ((hset b h1).trans (hg.block b h2 (fun e=>h4 e.symm)))
 ·intro g e e2
  have hlt:=(h.row.low e).2
  rcases hat with q|q
  ·rw[q] at e2;exact h.apart g e e2
  ·rw[q] at e2
   have:=Option.some.inj e2
   omega
theorem ArX.done {w':World} (h:ArX W w kd fr A c B d ts ns xs) (to':Nat) (hs:w.heap.size≤w'.heap.size) (hw:∀ b,W.heap.size+2≤b→b<w.heap.size→w'.heap[b]?=w.heap[b]?) :
   VKept W.heap.size w'.heap.size w' (.mk kd fr to' [] ts ns) ⟨kd,fr,to',[],A,ts.length,c,B,ns.length,d⟩:=by
 intro u hu
 have hlen:=h.len
 obtain ⟨A1,c1,e1,l1,_⟩:=h.row.form
 obtain ⟨B1,d1,e2,l2,_⟩:=h.nam.form
 have e1':A=A1∧ts.length=xs.length∧c=c1:=by injection e1 with a b c;exact ⟨a,b,c⟩
 have e2':B=B1∧ns.length=ns.length∧d=d1:=by injection e2 with a b c;exact ⟨a,b,c⟩
 have hag:∀ b,W.heap.size+2≤b→b<w.heap.size→u.heap[b]?=w.heap[b]?:=fun b h1 h2=>(hu b (by omega) (by omega)).trans (hw b h1 h2)
 unfold VIs
 refine ⟨rfl,rfl,rfl,rfl,?_,?_,?_,xs,?_,h.kept u (fun b h1 h2 _ _=>hag b h1 h2)⟩
 ·show ts.length≤c
  rw[← hlen,e1'.2.2]
  exact l1
 ·show ns.length≤d
  rw[e2'.2.2]
  exact l2
 ·exact h.nam.rd_at (fun g e=>hag g (h.nam.low e).1 (h.nam.low e).2)
 ·have:=h.row.rd_at (u:=u) (fun g e=>hag g (h.row.low e).1 (h.row.low e).2)
  rw[hlen] at this
  exact this
theorem ArX.facts (h:ArX W w kd fr A c B d ts ns xs) {n m:Nat} (hn:ts.length=n) (hm:ns.length=m) :
   w.cell? ⟨W.heap.size+1,0,none⟩=some (.int .i64 kd)∧w.cell? ⟨W.heap.size+1,1,none⟩=some (.int .i64 fr)∧w.cell? ⟨W.heap.size+1,2,none⟩=some (.int .i64 0)∧w.cell? ⟨W.heap.size+1,3,none⟩=some (.string ⟨#[]⟩) ∧
   w.cell? ⟨W.heap.size+1,4,none⟩=some (.slice A n c)∧w.cell? ⟨W.heap.size+1,5,none⟩=some (.slice B m d) ∧
   w.frozen? ⟨W.heap.size+1,2,none⟩=false∧w.frozen? ⟨W.heap.size+1,4,none⟩=false∧w.frozen? ⟨W.heap.size+1,5,none⟩=false:=by
 subst hn hm
 exact ⟨h.val.at 0,h.val.at 1,h.val.at 2,h.val.at 3,h.val.at 4,h.val.at 5,h.val.free 2,h.val.free 4,h.val.free 5⟩
theorem put9_high {w:World} {g b:Nat} (h:b≠g) (kd fr t:Int) (tx:ByteArray) (A:Option Addr) (n c:Nat) (B:Option Addr) (m d:Nat) (bg:Bool) (k f:Int):(put9 w g kd fr t tx A n c B m d bg k f).heap[b]?=w.heap[b]?:=by
 have e:∀ (u:World) (i:Nat) (v:Value),(u.setCell ⟨g,i,none⟩ v).heap[b]?=u.heap[b]?:=fun u i v=>Below.heap_setCell u _ v b h
 unfold put9
 simp only [e]
theorem put9_size {w:World} {g:Nat} (kd fr t:Int) (tx:ByteArray) (A:Option Addr) (n c:Nat) (B:Option Addr) (m d:Nat) (bg:Bool) (k f:Int):(put9 w g kd fr t tx A n c B m d bg k f).heap.size=w.heap.size:=by
 unfold put9
 simp[World.setCell]
theorem ArX.broke {w4:World} (h:ArX W w kd fr A c B d ts ns xs) {n m:Nat} (hn:ts.length=n) (hm:ns.length=m) (hb:Below w.heap.size w w4) (f kk:Int) :
   Own w4 W.heap.size 125 zero9∧Own (put9 w4 W.heap.size kd fr 0 ⟨#[]⟩ A n c B m d true kk f) W.heap.size 125 (cells9 kd fr 0 ⟨#[]⟩ A n c B m d true kk f) ∧
   Below W.heap.size W (put9 w4 W.heap.size kd fr 0 ⟨#[]⟩ A n c B m d true kk f) ∧
   VKept W.heap.size (put9 w4 W.heap.size kd fr 0 ⟨#[]⟩ A n c B m d true kk f).heap.size (put9 w4 W.heap.size kd fr 0 ⟨#[]⟩ A n c B m d true kk f) (.mk kd fr 0 [] ts ns) ⟨kd,fr,0,[],A,n,c,B,m,d⟩:=by
 subst hn hm
 have h4:=h.stay hb
 exact ⟨h4.part,put9_own h4.part _ _ _ _ _ _ _ _ _ _ _ _ _,put9_below h4.bel _ _ _ _ _ _ _ _ _ _ _ _ _,
   h4.done 0 (Nat.le_of_eq (put9_size _ _ _ _ _ _ _ _ _ _ _ _ _).symm) (fun b h1 _=>put9_high (by omega) _ _ _ _ _ _ _ _ _ _ _ _ _)⟩
theorem ArX.well (h:ArX W w kd fr A c B d ts ns xs) {n m:Nat} (hn:ts.length=n) (hm:ns.length=m) (to':Nat) (t kk:Int) (ht:t=to') :
   Own (w.setCell ⟨W.heap.size+1,2,none⟩ (.int .i64 t)) W.heap.size 125 zero9 ∧
   Own (put9 (w.setCell ⟨W.heap.size+1,2,none⟩ (.int .i64 t)) W.heap.size kd fr t ⟨#[]⟩ A n c B m d true kk 0) W.heap.size 125 (cells9 kd fr t ⟨#[]⟩ A n c B m d true kk 0) ∧
   Below W.heap.size W (put9 (w.setCell ⟨W.heap.size+1,2,none⟩ (.int .i64 t)) W.heap.size kd fr t ⟨#[]⟩ A n c B m d true kk 0) ∧
   VKept W.heap.size (put9 (w.setCell ⟨W.heap.size+1,2,none⟩ (.int .i64 t)) W.heap.size kd fr t ⟨#[]⟩ A n c B m d true kk 0).heap.size (put9 (w.setCell ⟨W.heap.size+1,2,none⟩ (.int .i64 t)) W.heap.size kd fr t ⟨#[]⟩ A n c B m d true kk 0) (.mk kd fr to' [] ts ns) ⟨kd,fr,to',[],A,n,c,B,m,d⟩:=by
 subst hn hm ht
 have o:=h.part.past (p:=⟨W.heap.size+1,2,none⟩) (by show W.heap.size≠W.heap.size+1;omega) (.int .i64 (to':Int))
 refine ⟨o,put9_own o _ _ _ _ _ _ _ _ _ _ _ _ _,put9_below (h.bel.setCell (p:=⟨W.heap.size+1,2,none⟩) (Nat.le_succ _) _) _ _ _ _ _ _ _ _ _ _ _ _ _,h.done to' ?_ (fun b h1 _=>(put9_high (by omega) _ _ _ _ _ _ _ _ _ _ _ _ _).trans (Below.heap_setCell w _ _ b (by show b≠W.heap.size+1;omega)))⟩
 rw[put9_size]
 simp[World.setCell]
end
end
section
open Go.RowKit
def SomeC (s:ByteArray)(cl:Bool)(n:Nat):Prop:=∀ k:Nat,k<s.size → ∀ W:World,Calls Tryz.prog 60 #[.string s,.int .i64 k,.int .i64 n,.bool cl] W fun e w'=>PartP W (someR s.data.toList cl n k) e w'
theorem rblank_at (s:ByteArray) (hs:s.size≤50000) (k b:Nat) (i:Int) (hi:i=k) (hk:k≤s.size) (hb:blankR s.data.toList k=b) (w:World) :
   Calls Tryz.prog 59 #[.string s,.int .i64 i] w fun e w'=>e=.returned (.int .i64 b)∧w=w':=by
 subst hi hb
 exact rblankR_any s k hk (by omega) w
theorem item_rd (w:World) (x:V6) (g:Nat) (hg:g=w.heap.size):RdG valK (w.alloc (.cells #[.int .i64 x.kd,.int .i64 x.fr,.int .i64 x.to,.string ⟨x.tx.toArray⟩,.slice x.A x.n x.c,.slice x.B x.m x.d] 29)) (some ⟨g,0,none⟩) 1 [x]:=by
 subst hg
 exact (GRow.made (K:=valK) (base:=0) (l:=[x]) w _ rfl (show 1≤maxLen by decide) (Nat.zero_le _)).rd
theorem arrGo_end (l:List UInt8) (sm:Nat→PartR) (fr f k:Nat) (items:List Tree) (hk:l.length≤k):arrGo l sm fr (f+1) k items=brkR10 4 fr items [] 10 l.length:=by
 show (if l.length≤k then _ else _)=_
 rw[if_pos hk]
theorem arrGo_step (l:List UInt8) (sm:Nat→PartR) (fr f k:Nat) (items:List Tree) (hk:k<l.length) (pv:Tree) (pb:Bool) (pp:Nat) (pf:Int) (hp:sm k=⟨pv,pb,pp,pf⟩) :
   arrGo l sm fr (f+1) k items=if pf≠0 then brkR10 4 fr (if pb then items++[pv] else items) [] pf pp
     else if l.length≤blankR l pp then brkR10 4 fr (if pb then items++[pv] else items) [] 10 l.length
     else if l.getD (blankR l pp) 0=93 then ⟨.mk 4 fr (blankR l pp+1) [] (if pb then items++[pv] else items) [],true,blankR l pp+1,0⟩
     else if l.getD (blankR l pp) 0≠44 then brkR10 4 fr (if pb then items++[pv] else items) [] 8 (blankR l pp)
     else arrGo l sm fr f (blankR l (blankR l pp+1)) (if pb then items++[pv] else items):=by
 show (if l.length≤k then _ else _)=_
 rw[if_neg (by omega),hp]
def RelAr (s:ByteArray) (sm:Nat→PartR) (fr:Nat) (P:PartR) (W wr:World) (v:Value):Prop :=
 ∃ (k f:Nat) (ts:List Tree) (xs:List V6) (A:Option Addr) (c:Nat),k≤s.size∧s.size<f+k∧ts.length≤k∧v=.int .i64 k∧arrGo s.data.toList sm fr f k ts=P∧ArX W wr 4 fr A c none 0 ts [] xs
set_option maxHeartbeats 16000000 in
theorem rarr_empty (s:ByteArray) (cl:Bool) (n k b:Nat) (hs:s.size≤50000) (hn:n≤100000) (hk:k<s.size) (hb:blankR s.data.toList (k+1)=b) (hlt:b<s.size) (e0:(s[b].toNat:Int)=93) (W:World) :
   Calls Tryz.prog 93 #[.string s,.int .i64 k,.int .i64 ((n:Int)+1),.bool cl] W fun e w'=>PartP W ⟨.mk 4 k (b+1) [] [] [],true,b+1,0⟩ e w':=by
 have HK:=hid (fun w=>rblank_at s hs (k+1) b ((k:Int)+1) rfl hk hb w)
 clear hb
 go_enter Tryz.func93,Tryz.ntmps93
 go_wp2_with (
   go_at_call 59
   go_must (
     refine (HK.out _).mono ?_
     rintro e w1 ⟨rfl,hw1⟩
     have A0:ArX W w1 4 k none 0 none 0 [] [] []:=by rw[← hw1];exact ArX.start W 4 k
     clear hw1
     obtain ⟨v0,v1,v2,v3,v4,v5,u2,u4,u5⟩:=A0.facts rfl rfl
     obtain ⟨o4,hO,hT,hV⟩:=A0.well rfl rfl (b+1) ((b:Int)+1) ((b:Int)+1) rfl
     obtain ⟨p0,p1,p2,p3,p4,p5,p6,p7,p8,f0,f1,f2,f3,f4,f5,f6,f7,f8⟩:=nine_facts o4
     unfold put9 at hO hT hV
     have HO:=hid hO
     have HT:=hid hT
     have HV:=hid hV
     clear hO hT hV o4 A0))
 refine bodyPost_ret (results_cell_row rfl _ _ W.heap.size _ _ (0,0) _ rfl HO.out Tryz.underlying125 rfl part_size) rfl ?_
 exact ⟨_,rfl,HV.out,HT.out⟩
set_option maxHeartbeats 16000000 in
theorem rarr_none (s:ByteArray) (cl:Bool) (n k b:Nat) (hs:s.size≤50000) (hn:n≤100000) (hk:k<s.size) (hb:blankR s.data.toList (k+1)=b) (hlt:¬ b<s.size) (W:World) :
   Calls Tryz.prog 93 #[.string s,.int .i64 k,.int .i64 ((n:Int)+1),.bool cl] W fun e w'=>PartP W (brkR10 4 k [] [] 10 s.size) e w':=by
 have HK:=hid (fun w=>rblank_at s hs (k+1) b ((k:Int)+1) rfl hk hb w)
 have HB:=hid (fun (kk f:Int) (w:World)=>rbroken_any 4 k 0 ⟨#[]⟩ none 0 0 none 0 0 kk f w)
 have hge:s.size≤b:=by omega
 clear hb
 go_enter Tryz.func93,Tryz.ntmps93
 go_wp2_with (
   go_at_call 59
   go_must (
     refine (HK.out _).mono ?_
     rintro e w1 ⟨rfl,hw1⟩
     have A0:ArX W w1 4 k none 0 none 0 [] [] []:=by rw[← hw1];exact ArX.start W 4 k
     clear hw1
     obtain ⟨v0,v1,v2,v3,v4,v5,u2,u4,u5⟩:=A0.facts rfl rfl))
 refine wp_loop_rounds 2 ?_
 rw[rounds_succ]
 go_wp2_with (
   go_at_call 113
   go_must (
     refine (HB.out 10 s.size _).mono ?_
     rintro e w9 ⟨rfl,hb9⟩
     obtain ⟨o4,hO,hT,hV⟩:=A0.broke rfl rfl hb9 10 s.size
     obtain ⟨p0,p1,p2,p3,p4,p5,p6,p7,p8,f0,f1,f2,f3,f4,f5,f6,f7,f8⟩:=nine_facts o4
     unfold put9 at hO hT hV
     have HO:=hid hO
     have HT:=hid hT
     have HV:=hid hV
     clear hO hT hV o4 hb9))
 refine bodyPost_ret (results_cell_row rfl _ _ W.heap.size _ _ (0,0) _ rfl HO.out Tryz.underlying125 rfl part_size) rfl ?_
 exact ⟨_,rfl,HV.out,HT.out⟩
set_option maxHeartbeats 16000000 in
theorem rarr_loop (s : ByteArray) (cl:Bool) (n fr b:Nat) (hs:s.size≤50000) (hn:n≤100000) (HSC:SomeC s cl n) (hk:fr<s.size) (hb:blankR s.data.toList (fr+1)=b) (hlt0:b<s.size) (e0:¬ (s[b].toNat:Int)=93) (W:World)
   (P:PartR) (hP:arrGo s.data.toList (someR s.data.toList cl n) fr (s.size+1-b) b []=P) :
   Calls Tryz.prog 93 #[.string s,.int .i64 fr,.int .i64 ((n:Int)+1),.bool cl] W fun e w'=>PartP W P e w':=by
 have hsl:s.data.toList.length=s.size:=rfl
 have HK:=hid (fun w=>rblank_at s hs (fr+1) b ((fr:Int)+1) rfl hk hb w)
 have HX:=hid hP
 have e0b:((s[b].toNat:Int)==93)=false:=beq_eq_false_iff_ne.2 e0
 clear hb hP e0
 go_enter Tryz.func93,Tryz.ntmps93
 go_wp2_with (
   go_at_call 59
   go_must (
     refine (HK.out _).mono ?_
     rintro e w1 ⟨rfl,hw1⟩
     have A0:ArX W w1 4 fr none 0 none 0 [] [] []:=by rw[← hw1];exact ArX.start W 4 fr
     clear hw1))
 go_loopw [10] (fun v wr=>RelAr s (someR s.data.toList cl n) fr P W wr v) (fun v _=>s.size-(intOf v).toNat)
 case atStart=>exact ⟨b,s.size+1-b,[],[],none,0,by omega,by omega,Nat.zero_le _,rfl,HX.out,A0⟩
 case round =>
   clear A0 HX HK
   obtain ⟨k,f,ts,xs,A,c,hks,hfk,hlen,rfl,hP,hA⟩:=hrel
   obtain ⟨f,rfl⟩:∃ g,f=g+1:=⟨f-1,by omega⟩
   obtain ⟨n0,hn0⟩:∃ n0,ts.length=n0:=⟨_,rfl⟩
   have HN:=hid hn0
   have HL:=hid (show ts.length≤50000 by omega)
   have HLK:=hid hlen
   have HFK:=hid hfk
   clear hlen hfk
   by_cases hlt:k<s.size
   ·obtain ⟨⟨pv, pb, pp,pf⟩,hp⟩:∃ p,someR s.data.toList cl n k=p:=⟨_,rfl⟩
    have hbd:=someR_bd s.data.toList cl n k hlt
    have HSM:=HSC k hlt
    rw[hp] at hbd HSM
    have hpp:pp≤s.size:=hbd.1
    have hp0:pf=0→k≤pp∧pb=true:=hbd.2
    rw[arrGo_step s.data.toList _ fr f k ts hlt pv pb pp pf hp] at hP
    have HSM:=hid HSM
    have HA:=hid hA
    clear hp hbd hA hn0
    by_cases hpf:pf=0
    ·obtain ⟨hkp, rfl⟩:=hp0 hpf
     subst hpf
     rw[if_neg (fun h=>h rfl),if_pos rfl] at hP
     obtain ⟨k2,hk2⟩:∃ k2,blankR s.data.toList pp=k2:=⟨_,rfl⟩
     have hbl:=blankR_le s.data.toList pp hpp
     have HK2:=hid (fun w=>rblank_at s hs pp k2 pp rfl hpp hk2 w)
     rw[hk2] at hP hbl
     have hbl2:k2≤s.size:=hbl.2
     have hbl1:=hbl.1
     clear hp0 hk2 hbl
     by_cases hl2:k2<s.size
     ·rw [if_neg (show ¬ s.data.toList.length≤k2 from by rw[hsl];omega),getD_at s k2 hl2] at hP
      by_cases h93:s[k2]=93
      ·have e93 : (s[k2].toNat:Int)=93:=(u8_int10 (by decide)).1 h93
       rw[if_pos h93] at hP
       have HP:=hid hP
       clear hP h93
       go_upto_region 17 with (first
         | (go_at_call 60
            go_must (
              refine (HSM.out _).mono ?_
              rintro e w3 ⟨x,rfl,hk3,hb3⟩
              have A3:=HA.out.stay hb3
              have hz3:=hb3.size
              have hb4:=below1 w3 (.cells #[.int .i64 x.kd,.int .i64 x.fr,.int .i64 x.to,.string ⟨x.tx.toArray⟩,.slice x.A x.n x.c,.slice x.B x.m x.d,.bool true,.int .i64 pp,.int .i64 0] 125)
              have A4:=A3.stay hb4
              obtain ⟨v0,v1,v2,v3,v4,v5,u2,u4,u5⟩:=A4.facts HN.out rfl
              have hb5:=hb4.trans ((below1 (w3.alloc (.cells #[.int .i64 x.kd,.int .i64 x.fr,.int .i64 x.to,.string ⟨x.tx.toArray⟩,.slice x.A x.n x.c,.slice x.B x.m x.d,.bool true,.int .i64 pp,.int .i64 0] 125)) (.cells #[.int .i64 x.kd,.int .i64 x.fr,.int .i64 x.to,.string ⟨x.tx.toArray⟩,.slice x.A x.n x.c,.slice x.B x.m x.d] 29)).mono hb4.size)
              have A5:=A3.stay hb5
              have OP:=(Own.fresh w3 125 #[.int .i64 x.kd,.int .i64 x.fr,.int .i64 x.to,.string ⟨x.tx.toArray⟩,.slice x.A x.n x.c,.slice x.B x.m x.d,.bool true,.int .i64 pp,.int .i64 0]).over (.cells #[.int .i64 x.kd,.int .i64 x.fr,.int .i64 x.to,.string ⟨x.tx.toArray⟩,.slice x.A x.n x.c,.slice x.B x.m x.d] 29)
              have hk5:VKept wr.heap.size w3.heap.size ((w3.alloc (.cells #[.int .i64 x.kd,.int .i64 x.fr,.int .i64 x.to,.string ⟨x.tx.toArray⟩,.slice x.A x.n x.c,.slice x.B x.m x.d,.bool true,.int .i64 pp,.int .i64 0] 125)).alloc (.cells #[.int .i64 x.kd,.int .i64 x.fr,.int .i64 x.to,.string ⟨x.tx.toArray⟩,.slice x.A x.n x.c,.slice x.B x.m x.d] 29)) pv x:=fun u hu=>hk3 u (fun b h1 h2=>(hu b h1 h2).trans (hb5.block b h2))
              have H5:=hid (And.intro A5 (And.intro OP (And.intro hk5 hb5.size)))
              have NEW:=hid (item_rd (w3.alloc (.cells #[.int .i64 x.kd,.int .i64 x.fr,.int .i64 x.to,.string ⟨x.tx.toArray⟩,.slice x.A x.n x.c,.slice x.B x.m x.d,.bool true,.int .i64 pp,.int .i64 0] 125)) x (w3.heap.size+1) (by simp))
              clear hk3 hb3 A3 A4 hb4 A5 OP hk5 hb5))
         | (at_builtin
            go_must (
              refine row_append (K:=valK) _ rfl (.tmp 52) (.tmp 55) rfl (W.heap.size+2) (.slice A n0 c) xs rfl (HN.out▸H5.out.1.row) _ 1 1 [x] rfl NEW.out (by have:=H5.out.1.len;have:=HL.out;omega) H5.out.1.big ?_
              intro v5 w5 hr5 hg5 hat5
              rw[← HN.out] at hg5 hat5
              obtain ⟨A',c',hv5,A6⟩:=H5.out.1.push H5.out.2.2.1 HA.out.big H5.out.2.2.2 (fun g e=>(HA.out.row.low e).2) (fun g e=>by simp[Value.ownBlock] at e) hr5 hg5 hat5
              obtain ⟨n6,hn6⟩:∃ n6,(ts++[pv]).length=n6:=⟨_,rfl⟩
              rw[hn6] at hv5
              subst hv5
              have hz5:=hg5.size
              simp at hz5
              have hwn:∀ g,(Value.slice A ts.length c).ownBlock=some g→g<wr.heap.size:=fun g e=>(HA.out.row.low e).2
              have O6:Own (w5.setCell ⟨W.heap.size+1,4,none⟩ (.slice A' n6 c')) w3.heap.size 125 #[.int .i64 x.kd,.int .i64 x.fr,.int .i64 x.to,.string ⟨x.tx.toArray⟩,.slice x.A x.n x.c,.slice x.B x.m x.d,.bool true,.int .i64 pp,.int .i64 0] :=
                Own.past (show Own w5 _ _ _ from (hg5.block _ H5.out.2.1.inside (fun e=>by have:=hwn _ e.symm;omega)).trans H5.out.2.1) (by show w3.heap.size≠W.heap.size+1;have:=HA.out.big;omega) _
              have OV5:Own w5 (W.heap.size+1) 29 #[.int .i64 4,.int .i64 fr,.int .i64 0,.string ⟨#[]⟩,.slice A ts.length c,.slice none 0 0] :=
                (hg5.block _ H5.out.1.val.inside (fun e=>by have:=(H5.out.1.row.low e.symm).1;omega)).trans H5.out.1.val
              have y4:=OV5.at 4
              have z4:=OV5.free 4
              have q7:=O6.at 7
              have q8:=O6.at 8
              simp at y4 q7 q8
              have y0:=OV5.at 0
              have y1:=OV5.at 1
              have y2:=OV5.at 2
              have y3:=OV5.at 3
              have y5:=OV5.at 5
              have z2:=OV5.free 2
              simp at y0 y1 y2 y3 y5
              have HA6:=hid A6
              have HN6:=hid hn6
              clear hr5 hg5 hat5 A6 O6 OV5 hwn hn6))
         | (go_at_call 59;refine (HK2.out _).mono ?_;rintro e w' ⟨rfl,rfl⟩))
       obtain ⟨o4,hO,hT,hV⟩:=HA6.out.well HN6.out rfl (k2+1) ((k2:Int)+1) ((k2:Int)+1) rfl
       obtain ⟨p0,p1,p2,p3,p4,p5,p6,p7,p8,f0,f1,f2,f3,f4,f5,f6,f7,f8⟩:=nine_facts o4
       unfold put9 at hO hT hV
       have HO:=hid hO
       have HT:=hid hT
       have HV:=hid hV
       clear hO hT hV o4
       go_wp2
       refine bodyPost_ret (results_cell_row rfl _ _ W.heap.size _ _ (0,0) _ rfl HO.out Tryz.underlying125 rfl part_size) rfl ?_
       rw[← HP.out]
       exact ⟨_,rfl,HV.out,HT.out⟩
      ·have e93 : ¬ (s[k2].toNat:Int)=93:=fun e=>h93 ((u8_int10 (by decide)).2 e)
       rw[if_neg h93] at hP
       by_cases h44:s[k2]=44
       ·have e44 : (s[k2].toNat:Int)=44:=(u8_int10 (by decide)).1 h44
        rw[if_neg (fun h=>h h44)] at hP
        obtain ⟨k3,hk3⟩:∃ k3,blankR s.data.toList (k2+1)=k3:=⟨_,rfl⟩
        have hbl3:=blankR_le s.data.toList (k2+1) hl2
        have HK3:=hid (fun w=>rblank_at s hs (k2+1) k3 ((k2:Int)+1) rfl hl2 hk3 w)
        rw[hk3] at hP hbl3
        have hb31:=hbl3.1
        have hb32:k3≤s.size:=hbl3.2
        have HP:=hid hP
        clear hP h93 h44 hk3 hbl3
        have tok:True:=trivial
        go_wp2_with (first
          | (go_at_call 60
             go_must (
               refine (HSM.out _).mono ?_
               rintro e w3 ⟨x,rfl,hk3,hb3⟩
               have A3:=HA.out.stay hb3
               have hz3:=hb3.size
               have hb4:=below1 w3 (.cells #[.int .i64 x.kd,.int .i64 x.fr,.int .i64 x.to,.string ⟨x.tx.toArray⟩,.slice x.A x.n x.c,.slice x.B x.m x.d,.bool true,.int .i64 pp,.int .i64 0] 125)
               have A4:=A3.stay hb4
               obtain ⟨v0,v1,v2,v3,v4,v5,u2,u4,u5⟩:=A4.facts HN.out rfl
               have hb5:=hb4.trans ((below1 (w3.alloc (.cells #[.int .i64 x.kd,.int .i64 x.fr,.int .i64 x.to,.string ⟨x.tx.toArray⟩,.slice x.A x.n x.c,.slice x.B x.m x.d,.bool true,.int .i64 pp,.int .i64 0] 125)) (.cells #[.int .i64 x.kd,.int .i64 x.fr,.int .i64 x.to,.string ⟨x.tx.toArray⟩,.slice x.A x.n x.c,.slice x.B x.m x.d] 29)).mono hb4.size)
               have A5:=A3.stay hb5
               have OP:=(Own.fresh w3 125 #[.int .i64 x.kd,.int .i64 x.fr,.int .i64 x.to,.string ⟨x.tx.toArray⟩,.slice x.A x.n x.c,.slice x.B x.m x.d,.bool true,.int .i64 pp,.int .i64 0]).over (.cells #[.int .i64 x.kd,.int .i64 x.fr,.int .i64 x.to,.string ⟨x.tx.toArray⟩,.slice x.A x.n x.c,.slice x.B x.m x.d] 29)
               have hk5:VKept wr.heap.size w3.heap.size ((w3.alloc (.cells #[.int .i64 x.kd,.int .i64 x.fr,.int .i64 x.to,.string ⟨x.tx.toArray⟩,.slice x.A x.n x.c,.slice x.B x.m x.d,.bool true,.int .i64 pp,.int .i64 0] 125)).alloc (.cells #[.int .i64 x.kd,.int .i64 x.fr,.int .i64 x.to,.string ⟨x.tx.toArray⟩,.slice x.A x.n x.c,.slice x.B x.m x.d] 29)) pv x:=fun u hu=>hk3 u (fun b h1 h2=>(hu b h1 h2).trans (hb5.block b h2))
               have H5:=hid (And.intro A5 (And.intro OP (And.intro hk5 hb5.size)))
               have NEW:=hid (item_rd (w3.alloc (.cells #[.int .i64 x.kd,.int .i64 x.fr,.int .i64 x.to,.string ⟨x.tx.toArray⟩,.slice x.A x.n x.c,.slice x.B x.m x.d,.bool true,.int .i64 pp,.int .i64 0] 125)) x (w3.heap.size+1) (by simp))
               clear hk3 hb3 A3 A4 hb4 A5 OP hk5 hb5))
          | (at_builtin
             go_must (
               refine row_append (K:=valK) _ rfl (.tmp 52) (.tmp 55) rfl (W.heap.size+2) (.slice A n0 c) xs rfl (HN.out▸H5.out.1.row) _ 1 1 [x] rfl NEW.out (by have:=H5.out.1.len;have:=HL.out;omega) H5.out.1.big ?_
               intro v5 w5 hr5 hg5 hat5
               rw[← HN.out] at hg5 hat5
               obtain ⟨A',c',hv5,A6⟩:=H5.out.1.push H5.out.2.2.1 HA.out.big H5.out.2.2.2 (fun g e=>(HA.out.row.low e).2) (fun g e=>by simp[Value.ownBlock] at e) hr5 hg5 hat5
               obtain ⟨n6,hn6⟩:∃ n6,(ts++[pv]).length=n6:=⟨_,rfl⟩
               rw[hn6] at hv5
               subst hv5
               have hz5:=hg5.size
               simp at hz5
               have hwn:∀ g,(Value.slice A ts.length c).ownBlock=some g→g<wr.heap.size:=fun g e=>(HA.out.row.low e).2
               have O6:Own (w5.setCell ⟨W.heap.size+1,4,none⟩ (.slice A' n6 c')) w3.heap.size 125 #[.int .i64 x.kd,.int .i64 x.fr,.int .i64 x.to,.string ⟨x.tx.toArray⟩,.slice x.A x.n x.c,.slice x.B x.m x.d,.bool true,.int .i64 pp,.int .i64 0] :=
                 Own.past (show Own w5 _ _ _ from (hg5.block _ H5.out.2.1.inside (fun e=>by have:=hwn _ e.symm;omega)).trans H5.out.2.1) (by show w3.heap.size≠W.heap.size+1;have:=HA.out.big;omega) _
               have OV5:Own w5 (W.heap.size+1) 29 #[.int .i64 4,.int .i64 fr,.int .i64 0,.string ⟨#[]⟩,.slice A ts.length c,.slice none 0 0] :=
                 (hg5.block _ H5.out.1.val.inside (fun e=>by have:=(H5.out.1.row.low e.symm).1;omega)).trans H5.out.1.val
               have y4:=OV5.at 4
               have z4:=OV5.free 4
               have q7:=O6.at 7
               have q8:=O6.at 8
               simp at y4 q7 q8
               obtain ⟨v0',v1',v2',v3',v4',v5',u2',u4',u5'⟩:=A6.facts hn6 rfl
               have HA6:=hid A6
               have HN6:=hid hn6
               clear hr5 hg5 hat5 A6 O6 OV5 hwn hn6))
          | (go_at_call 59;clear tok;refine (HK2.out _).mono ?_;rintro e w' ⟨rfl,rfl⟩)
          | (go_at_call 59;refine (HK3.out _).mono ?_;rintro e w' ⟨rfl,rfl⟩))
        go_roundw
        case rel=>exact ⟨k3,f,ts++[pv],xs++[x],A',c',hb32,(by have:=HFK.out;omega),(by have:=HLK.out;simp;omega),(by go_num),HP.out,HA6.out⟩
        case measure=>simp[intOf];omega
       ·have e44 : ¬ (s[k2].toNat:Int)=44:=fun e=>h44 ((u8_int10 (by decide)).2 e)
        rw[if_pos h44] at hP
        have HP:=hid hP
        clear hP h93 h44
        go_wp2_with (first
          | (go_at_call 60
             go_must (
               refine (HSM.out _).mono ?_
               rintro e w3 ⟨x,rfl,hk3,hb3⟩
               have A3:=HA.out.stay hb3
               have hz3:=hb3.size
               have hb4:=below1 w3 (.cells #[.int .i64 x.kd,.int .i64 x.fr,.int .i64 x.to,.string ⟨x.tx.toArray⟩,.slice x.A x.n x.c,.slice x.B x.m x.d,.bool true,.int .i64 pp,.int .i64 0] 125)
               have A4:=A3.stay hb4
               obtain ⟨v0,v1,v2,v3,v4,v5,u2,u4,u5⟩:=A4.facts HN.out rfl
               have hb5:=hb4.trans ((below1 (w3.alloc (.cells #[.int .i64 x.kd,.int .i64 x.fr,.int .i64 x.to,.string ⟨x.tx.toArray⟩,.slice x.A x.n x.c,.slice x.B x.m x.d,.bool true,.int .i64 pp,.int .i64 0] 125)) (.cells #[.int .i64 x.kd,.int .i64 x.fr,.int .i64 x.to,.string ⟨x.tx.toArray⟩,.slice x.A x.n x.c,.slice x.B x.m x.d] 29)).mono hb4.size)
               have A5:=A3.stay hb5
               have OP:=(Own.fresh w3 125 #[.int .i64 x.kd,.int .i64 x.fr,.int .i64 x.to,.string ⟨x.tx.toArray⟩,.slice x.A x.n x.c,.slice x.B x.m x.d,.bool true,.int .i64 pp,.int .i64 0]).over (.cells #[.int .i64 x.kd,.int .i64 x.fr,.int .i64 x.to,.string ⟨x.tx.toArray⟩,.slice x.A x.n x.c,.slice x.B x.m x.d] 29)
               have hk5:VKept wr.heap.size w3.heap.size ((w3.alloc (.cells #[.int .i64 x.kd,.int .i64 x.fr,.int .i64 x.to,.string ⟨x.tx.toArray⟩,.slice x.A x.n x.c,.slice x.B x.m x.d,.bool true,.int .i64 pp,.int .i64 0] 125)).alloc (.cells #[.int .i64 x.kd,.int .i64 x.fr,.int .i64 x.to,.string ⟨x.tx.toArray⟩,.slice x.A x.n x.c,.slice x.B x.m x.d] 29)) pv x:=fun u hu=>hk3 u (fun b h1 h2=>(hu b h1 h2).trans (hb5.block b h2))
               have H5:=hid (And.intro A5 (And.intro OP (And.intro hk5 hb5.size)))
               have NEW:=hid (item_rd (w3.alloc (.cells #[.int .i64 x.kd,.int .i64 x.fr,.int .i64 x.to,.string ⟨x.tx.toArray⟩,.slice x.A x.n x.c,.slice x.B x.m x.d,.bool true,.int .i64 pp,.int .i64 0] 125)) x (w3.heap.size+1) (by simp))
               clear hk3 hb3 A3 A4 hb4 A5 OP hk5 hb5))
          | (at_builtin
             go_must (
               refine row_append (K:=valK) _ rfl (.tmp 52) (.tmp 55) rfl (W.heap.size+2) (.slice A n0 c) xs rfl (HN.out▸H5.out.1.row) _ 1 1 [x] rfl NEW.out (by have:=H5.out.1.len;have:=HL.out;omega) H5.out.1.big ?_
               intro v5 w5 hr5 hg5 hat5
               rw[← HN.out] at hg5 hat5
               obtain ⟨A',c',hv5,A6⟩:=H5.out.1.push H5.out.2.2.1 HA.out.big H5.out.2.2.2 (fun g e=>(HA.out.row.low e).2) (fun g e=>by simp[Value.ownBlock] at e) hr5 hg5 hat5
               obtain ⟨n6,hn6⟩:∃ n6,(ts++[pv]).length=n6:=⟨_,rfl⟩
               rw[hn6] at hv5
               subst hv5
               have hz5:=hg5.size
               simp at hz5
               have hwn:∀ g,(Value.slice A ts.length c).ownBlock=some g→g<wr.heap.size:=fun g e=>(HA.out.row.low e).2
               have O6:Own (w5.setCell ⟨W.heap.size+1,4,none⟩ (.slice A' n6 c')) w3.heap.size 125 #[.int .i64 x.kd,.int .i64 x.fr,.int .i64 x.to,.string ⟨x.tx.toArray⟩,.slice x.A x.n x.c,.slice x.B x.m x.d,.bool true,.int .i64 pp,.int .i64 0] :=
                 Own.past (show Own w5 _ _ _ from (hg5.block _ H5.out.2.1.inside (fun e=>by have:=hwn _ e.symm;omega)).trans H5.out.2.1) (by show w3.heap.size≠W.heap.size+1;have:=HA.out.big;omega) _
               have OV5:Own w5 (W.heap.size+1) 29 #[.int .i64 4,.int .i64 fr,.int .i64 0,.string ⟨#[]⟩,.slice A ts.length c,.slice none 0 0] :=
                 (hg5.block _ H5.out.1.val.inside (fun e=>by have:=(H5.out.1.row.low e.symm).1;omega)).trans H5.out.1.val
               have y4:=OV5.at 4
               have z4:=OV5.free 4
               have q7:=O6.at 7
               have q8:=O6.at 8
               simp at y4 q7 q8
               obtain ⟨v0',v1',v2',v3',v4',v5',u2',u4',u5'⟩:=A6.facts hn6 rfl
               have HA6:=hid A6
               have HN6:=hid hn6
               clear hr5 hg5 hat5 A6 O6 OV5 hwn hn6))
          | (go_at_call 59;refine (HK2.out _).mono ?_;rintro e w' ⟨rfl,rfl⟩)
          | (go_at_call 113
             go_must (
               refine (rbroken_any 4 fr 0 ⟨#[]⟩ A' n6 c' none 0 0 (8) (k2) _).mono ?_
               rintro e w9 ⟨rfl,hb9⟩
               obtain ⟨o4,hO,hT,hV⟩:=HA6.out.broke HN6.out rfl hb9 (8) (k2)
               obtain ⟨p0,p1,p2,p3,p4,p5,p6,p7,p8,f0,f1,f2,f3,f4,f5,f6,f7,f8⟩:=nine_facts o4
               unfold put9 at hO hT hV
               have HO:=hid hO
               have HT:=hid hT
               have HV:=hid hV
               clear hO hT hV o4 hb9)))
        refine bodyPost_ret (results_cell_row rfl _ _ W.heap.size _ _ (0,0) _ rfl HO.out Tryz.underlying125 rfl part_size) rfl ?_
        rw[← HP.out]
        exact ⟨_,rfl,HV.out,HT.out⟩
     ·rw [if_pos (show s.data.toList.length≤k2 by rw[hsl];omega)] at hP
      have hge:s.size≤k2:=by omega
      have HP:=hid hP
      clear hP
      go_wp2_with (first
        | (go_at_call 60
           go_must (
             refine (HSM.out _).mono ?_
             rintro e w3 ⟨x,rfl,hk3,hb3⟩
             have A3:=HA.out.stay hb3
             have hz3:=hb3.size
             have hb4:=below1 w3 (.cells #[.int .i64 x.kd,.int .i64 x.fr,.int .i64 x.to,.string ⟨x.tx.toArray⟩,.slice x.A x.n x.c,.slice x.B x.m x.d,.bool true,.int .i64 pp,.int .i64 0] 125)
             have A4:=A3.stay hb4
             obtain ⟨v0,v1,v2,v3,v4,v5,u2,u4,u5⟩:=A4.facts HN.out rfl
             have hb5:=hb4.trans ((below1 (w3.alloc (.cells #[.int .i64 x.kd,.int .i64 x.fr,.int .i64 x.to,.string ⟨x.tx.toArray⟩,.slice x.A x.n x.c,.slice x.B x.m x.d,.bool true,.int .i64 pp,.int .i64 0] 125)) (.cells #[.int .i64 x.kd,.int .i64 x.fr,.int .i64 x.to,.string ⟨x.tx.toArray⟩,.slice x.A x.n x.c,.slice x.B x.m x.d] 29)).mono hb4.size)
             have A5:=A3.stay hb5
             have OP:=(Own.fresh w3 125 #[.int .i64 x.kd,.int .i64 x.fr,.int .i64 x.to,.string ⟨x.tx.toArray⟩,.slice x.A x.n x.c,.slice x.B x.m x.d,.bool true,.int .i64 pp,.int .i64 0]).over (.cells #[.int .i64 x.kd,.int .i64 x.fr,.int .i64 x.to,.string ⟨x.tx.toArray⟩,.slice x.A x.n x.c,.slice x.B x.m x.d] 29)
             have hk5:VKept wr.heap.size w3.heap.size ((w3.alloc (.cells #[.int .i64 x.kd,.int .i64 x.fr,.int .i64 x.to,.string ⟨x.tx.toArray⟩,.slice x.A x.n x.c,.slice x.B x.m x.d,.bool true,.int .i64 pp,.int .i64 0] 125)).alloc (.cells #[.int .i64 x.kd,.int .i64 x.fr,.int .i64 x.to,.string ⟨x.tx.toArray⟩,.slice x.A x.n x.c,.slice x.B x.m x.d] 29)) pv x:=fun u hu=>hk3 u (fun b h1 h2=>(hu b h1 h2).trans (hb5.block b h2))
             have H5:=hid (And.intro A5 (And.intro OP (And.intro hk5 hb5.size)))
             have NEW:=hid (item_rd (w3.alloc (.cells #[.int .i64 x.kd,.int .i64 x.fr,.int .i64 x.to,.string ⟨x.tx.toArray⟩,.slice x.A x.n x.c,.slice x.B x.m x.d,.bool true,.int .i64 pp,.int .i64 0] 125)) x (w3.heap.size+1) (by simp))
             clear hk3 hb3 A3 A4 hb4 A5 OP hk5 hb5))
        | (at_builtin
           go_must (
             refine row_append (K:=valK) _ rfl (.tmp 52) (.tmp 55) rfl (W.heap.size+2) (.slice A n0 c) xs rfl (HN.out▸H5.out.1.row) _ 1 1 [x] rfl NEW.out (by have:=H5.out.1.len;have:=HL.out;omega) H5.out.1.big ?_
             intro v5 w5 hr5 hg5 hat5
             rw[← HN.out] at hg5 hat5
             obtain ⟨A',c',hv5,A6⟩:=H5.out.1.push H5.out.2.2.1 HA.out.big H5.out.2.2.2 (fun g e=>(HA.out.row.low e).2) (fun g e=>by simp[Value.ownBlock] at e) hr5 hg5 hat5
             obtain ⟨n6,hn6⟩:∃ n6,(ts++[pv]).length=n6:=⟨_,rfl⟩
             rw[hn6] at hv5
             subst hv5
             have hz5:=hg5.size
             simp at hz5
             have hwn:∀ g,(Value.slice A ts.length c).ownBlock=some g→g<wr.heap.size:=fun g e=>(HA.out.row.low e).2
             have O6:Own (w5.setCell ⟨W.heap.size+1,4,none⟩ (.slice A' n6 c')) w3.heap.size 125 #[.int .i64 x.kd,.int .i64 x.fr,.int .i64 x.to,.string ⟨x.tx.toArray⟩,.slice x.A x.n x.c,.slice x.B x.m x.d,.bool true,.int .i64 pp,.int .i64 0] :=
               Own.past (show Own w5 _ _ _ from (hg5.block _ H5.out.2.1.inside (fun e=>by have:=hwn _ e.symm;omega)).trans H5.out.2.1) (by show w3.heap.size≠W.heap.size+1;have:=HA.out.big;omega) _
             have OV5:Own w5 (W.heap.size+1) 29 #[.int .i64 4,.int .i64 fr,.int .i64 0,.string ⟨#[]⟩,.slice A ts.length c,.slice none 0 0] :=
               (hg5.block _ H5.out.1.val.inside (fun e=>by have:=(H5.out.1.row.low e.symm).1;omega)).trans H5.out.1.val
             have y4:=OV5.at 4
             have z4:=OV5.free 4
             have q7:=O6.at 7
             have q8:=O6.at 8
             simp at y4 q7 q8
             obtain ⟨v0',v1',v2',v3',v4',v5',u2',u4',u5'⟩:=A6.facts hn6 rfl
             have HA6:=hid A6
             have HN6:=hid hn6
             clear hr5 hg5 hat5 A6 O6 OV5 hwn hn6))
        | (go_at_call 59;refine (HK2.out _).mono ?_;rintro e w' ⟨rfl,rfl⟩)
        | (go_at_call 113
           go_must (
             refine (rbroken_any 4 fr 0 ⟨#[]⟩ A' n6 c' none 0 0 (10) (s.size) _).mono ?_
             rintro e w9 ⟨rfl,hb9⟩
             obtain ⟨o4,hO,hT,hV⟩:=HA6.out.broke HN6.out rfl hb9 (10) (s.size)
             obtain ⟨p0,p1,p2,p3,p4,p5,p6,p7,p8,f0,f1,f2,f3,f4,f5,f6,f7,f8⟩:=nine_facts o4
             unfold put9 at hO hT hV
             have HO:=hid hO
             have HT:=hid hT
             have HV:=hid hV
             clear hO hT hV o4 hb9)))
      refine bodyPost_ret (results_cell_row rfl _ _ W.heap.size _ _ (0,0) _ rfl HO.out Tryz.underlying125 rfl part_size) rfl ?_
      rw[← HP.out]
      exact ⟨_,rfl,HV.out,HT.out⟩
    ·rw [if_pos hpf] at hP
     clear hp0
     cases pb
     ·rw [if_neg (by decide)] at hP
      have HP:=hid hP
      clear hP
      go_wp2_with (first
        | (go_at_call 60
           go_must (
             refine (HSM.out _).mono ?_
             rintro e w3 ⟨x,rfl,hk3,hb3⟩
             have A3:=HA.out.stay hb3
             have hb4:=below1 w3 (.cells #[.int .i64 x.kd,.int .i64 x.fr,.int .i64 x.to,.string ⟨x.tx.toArray⟩,.slice x.A x.n x.c,.slice x.B x.m x.d,.bool false,.int .i64 pp,.int .i64 pf] 125)
             have A4:=A3.stay hb4
             obtain ⟨v0,v1,v2,v3,v4,v5,u2,u4,u5⟩:=A4.facts HN.out rfl
             clear hk3 hb3 A3 hb4))
        | (go_at_call 113
           go_must (
             refine (rbroken_any 4 fr 0 ⟨#[]⟩ A n0 c none 0 0 pf pp _).mono ?_
             rintro e w9 ⟨rfl,hb9⟩
             obtain ⟨o4,hO,hT,hV⟩:=A4.broke HN.out rfl hb9 pf pp
             obtain ⟨p0,p1,p2,p3,p4,p5,p6,p7,p8,f0,f1,f2,f3,f4,f5,f6,f7,f8⟩:=nine_facts o4
             unfold put9 at hO hT hV
             have HO:=hid hO
             have HT:=hid hT
             have HV:=hid hV
             clear hO hT hV o4 hb9 A4)))
      refine bodyPost_ret (results_cell_row rfl _ _ W.heap.size _ _ (0,0) _ rfl HO.out Tryz.underlying125 rfl part_size) rfl ?_
      rw[← HP.out]
      exact ⟨_,rfl,HV.out,HT.out⟩
     ·rw [if_pos rfl] at hP
      have HP:=hid hP
      clear hP
      go_wp2_with (first
        | (go_at_call 60
           go_must (
             refine (HSM.out _).mono ?_
             rintro e w3 ⟨x,rfl,hk3,hb3⟩
             have A3:=HA.out.stay hb3
             have hz3:=hb3.size
             have hb4:=below1 w3 (.cells #[.int .i64 x.kd,.int .i64 x.fr,.int .i64 x.to,.string ⟨x.tx.toArray⟩,.slice x.A x.n x.c,.slice x.B x.m x.d,.bool true,.int .i64 pp,.int .i64 pf] 125)
             have A4:=A3.stay hb4
             obtain ⟨v0,v1,v2,v3,v4,v5,u2,u4,u5⟩:=A4.facts HN.out rfl
             have hb5:=hb4.trans ((below1 (w3.alloc (.cells #[.int .i64 x.kd,.int .i64 x.fr,.int .i64 x.to,.string ⟨x.tx.toArray⟩,.slice x.A x.n x.c,.slice x.B x.m x.d,.bool true,.int .i64 pp,.int .i64 pf] 125)) (.cells #[.int .i64 x.kd,.int .i64 x.fr,.int .i64 x.to,.string ⟨x.tx.toArray⟩,.slice x.A x.n x.c,.slice x.B x.m x.d] 29)).mono hb4.size)
             have A5:=A3.stay hb5
             have OP:=(Own.fresh w3 125 #[.int .i64 x.kd,.int .i64 x.fr,.int .i64 x.to,.string ⟨x.tx.toArray⟩,.slice x.A x.n x.c,.slice x.B x.m x.d,.bool true,.int .i64 pp,.int .i64 pf]).over (.cells #[.int .i64 x.kd,.int .i64 x.fr,.int .i64 x.to,.string ⟨x.tx.toArray⟩,.slice x.A x.n x.c,.slice x.B x.m x.d] 29)
             have hk5:VKept wr.heap.size w3.heap.size ((w3.alloc (.cells #[.int .i64 x.kd,.int .i64 x.fr,.int .i64 x.to,.string ⟨x.tx.toArray⟩,.slice x.A x.n x.c,.slice x.B x.m x.d,.bool true,.int .i64 pp,.int .i64 pf] 125)).alloc (.cells #[.int .i64 x.kd,.int .i64 x.fr,.int .i64 x.to,.string ⟨x.tx.toArray⟩,.slice x.A x.n x.c,.slice x.B x.m x.d] 29)) pv x:=fun u hu=>hk3 u (fun b h1 h2=>(hu b h1 h2).trans (hb5.block b h2))
             have H5:=hid (And.intro A5 (And.intro OP (And.intro hk5 hb5.size)))
             have NEW:=hid (item_rd (w3.alloc (.cells #[.int .i64 x.kd,.int .i64 x.fr,.int .i64 x.to,.string ⟨x.tx.toArray⟩,.slice x.A x.n x.c,.slice x.B x.m x.d,.bool true,.int .i64 pp,.int .i64 pf] 125)) x (w3.heap.size+1) (by simp))
             clear hk3 hb3 A3 A4 hb4 A5 OP hk5 hb5))
        | (at_builtin
           go_must (
             refine row_append (K:=valK) _ rfl (.tmp 52) (.tmp 55) rfl (W.heap.size+2) (.slice A n0 c) xs rfl (HN.out▸H5.out.1.row) _ 1 1 [x] rfl NEW.out (by have:=H5.out.1.len;have:=HL.out;omega) H5.out.1.big ?_
             intro v5 w5 hr5 hg5 hat5
             rw[← HN.out] at hg5 hat5
             obtain ⟨A',c',hv5,A6⟩:=H5.out.1.push H5.out.2.2.1 HA.out.big H5.out.2.2.2 (fun g e=>(HA.out.row.low e).2) (fun g e=>by simp[Value.ownBlock] at e) hr5 hg5 hat5
             obtain ⟨n6,hn6⟩:∃ n6,(ts++[pv]).length=n6:=⟨_,rfl⟩
             rw[hn6] at hv5
             subst hv5
             have hz5:=hg5.size
             simp at hz5
             have hwn:∀ g,(Value.slice A ts.length c).ownBlock=some g→g<wr.heap.size:=fun g e=>(HA.out.row.low e).2
             have O6:Own (w5.setCell ⟨W.heap.size+1,4,none⟩ (.slice A' n6 c')) w3.heap.size 125 #[.int .i64 x.kd,.int .i64 x.fr,.int .i64 x.to,.string ⟨x.tx.toArray⟩,.slice x.A x.n x.c,.slice x.B x.m x.d,.bool true,.int .i64 pp,.int .i64 pf] :=
               Own.past (show Own w5 _ _ _ from (hg5.block _ H5.out.2.1.inside (fun e=>by have:=hwn _ e.symm;omega)).trans H5.out.2.1) (by show w3.heap.size≠W.heap.size+1;have:=HA.out.big;omega) _
             have OV5:Own w5 (W.heap.size+1) 29 #[.int .i64 4,.int .i64 fr,.int .i64 0,.string ⟨#[]⟩,.slice A ts.length c,.slice none 0 0] :=
               (hg5.block _ H5.out.1.val.inside (fun e=>by have:=(H5.out.1.row.low e.symm).1;omega)).trans H5.out.1.val
             have y4:=OV5.at 4
             have z4:=OV5.free 4
             have q7:=O6.at 7
             have q8:=O6.at 8
             simp at y4 q7 q8
             obtain ⟨v0',v1',v2',v3',v4',v5',u2',u4',u5'⟩:=A6.facts hn6 rfl
             have HA6:=hid A6
             have HN6:=hid hn6
             clear hr5 hg5 hat5 A6 O6 OV5 hwn hn6))
        | (go_at_call 113
           go_must (
             refine (rbroken_any 4 fr 0 ⟨#[]⟩ A' n6 c' none 0 0 (pf) (pp) _).mono ?_
             rintro e w9 ⟨rfl,hb9⟩
             obtain ⟨o4,hO,hT,hV⟩:=HA6.out.broke HN6.out rfl hb9 (pf) (pp)
             obtain ⟨p0,p1,p2,p3,p4,p5,p6,p7,p8,f0,f1,f2,f3,f4,f5,f6,f7,f8⟩:=nine_facts o4
             unfold put9 at hO hT hV
             have HO:=hid hO
             have HT:=hid hT
             have HV:=hid hV
             clear hO hT hV o4 hb9)))
      refine bodyPost_ret (results_cell_row rfl _ _ W.heap.size _ _ (0,0) _ rfl HO.out Tryz.underlying125 rfl part_size) rfl ?_
      rw[← HP.out]
      exact ⟨_,rfl,HV.out,HT.out⟩
   ·rw [arrGo_end s.data.toList _ fr f k ts (by rw[hsl];omega)] at hP
    have HP:=hid hP
    obtain ⟨v0,v1,v2,v3,v4,v5,u2,u4,u5⟩:=hA.facts hn0 rfl
    have HA:=hid hA
    have hge:s.size≤k:=by omega
    clear hP hA hn0
    go_wp2_with (first
      | (go_at_call 113
         go_must (
           refine (rbroken_any 4 fr 0 ⟨#[]⟩ A n0 c none 0 0 10 s.size _).mono ?_
           rintro e w9 ⟨rfl,hb9⟩
           obtain ⟨o4,hO,hT,hV⟩:=HA.out.broke HN.out rfl hb9 10 s.size
           obtain ⟨p0,p1,p2,p3,p4,p5,p6,p7,p8,f0,f1,f2,f3,f4,f5,f6,f7,f8⟩:=nine_facts o4
           unfold put9 at hO hT hV
           have HO:=hid hO
           have HT:=hid hT
           have HV:=hid hV
           clear hO hT hV o4 hb9)))
    refine bodyPost_ret (results_cell_row rfl _ _ W.heap.size _ _ (0,0) _ rfl HO.out Tryz.underlying125 rfl part_size) rfl ?_
    rw[← HP.out]
    exact ⟨_,rfl,HV.out,HT.out⟩
theorem rarr_any (s:ByteArray) (cl:Bool) (n k:Nat) (hs:s.size≤50000) (hn:n≤100000) (HSC:SomeC s cl n) (hk:k<s.size) (W:World) :
   Calls Tryz.prog 93 #[.string s,.int .i64 k,.int .i64 ((n:Int)+1),.bool cl] W fun e w'=>PartP W (arrR s.data.toList (someR s.data.toList cl n) k) e w':=by
 have hsl:s.data.toList.length=s.size:=rfl
 obtain ⟨b,hb⟩:∃ b,blankR s.data.toList (k+1)=b:=⟨_,rfl⟩
 have hle:=blankR_le s.data.toList (k+1) hk
 rw[hb] at hle
 have hle2:b≤s.size:=hle.2
 unfold arrR
 rw[hb,hsl]
 by_cases hlt:b<s.size
 ·rw [getD_at s b hlt]
  by_cases h93:s[b]=93
  ·rw[if_pos ⟨hlt,h93⟩]
   exact rarr_empty s cl n k b hs hn hk hb hlt ((u8_int10 (by decide)).1 h93) W
  ·rw[if_neg (fun h=>h93 h.2)]
   exact rarr_loop s cl n k b hs hn HSC hk hb hlt (fun e=>h93 ((u8_int10 (by decide)).2 e)) W _ rfl
 ·rw [if_neg (fun h=>hlt h.1)]
  have e:arrGo s.data.toList (someR s.data.toList cl n) k (s.size+1-b) b []=brkR10 4 k [] [] 10 s.size:=by
    obtain ⟨g,hg⟩:∃ g,s.size+1-b=g+1:=⟨s.size-b,by omega⟩
    rw[hg,arrGo_end _ _ _ _ _ _ (by rw[hsl];omega)]
    rfl
  rw[e]
  exact rarr_none s cl n k b hs hn hk hb hlt W
end
end Go.Proofs.YtnokhgfifbkflaaGreat
