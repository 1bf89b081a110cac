/- Lemmas. -/
import Derived.Test.YtmgdjlkndbejkaaGreatDoorJ16
import Derived.Deep.RegionHeld3
set_option maxRecDepth 100000
set_option maxHeartbeats 8000000
set_option linter.unusedVariables false
namespace Go.Proofs.YtmgdjlkndbejkaaGreatDoor
open Go.Lib (hid)
section
open Go.RowKit
theorem quoGo_on (m:UInt8) (f:Nat) (c:UInt8) (t acc:List UInt8) (k:Nat):quoGo m (f+1) (c :: t) acc k=if c=m then some (acc,k+1) else if c.toNat<32 then none else if c≠92 then quoGo m f t (acc++[c]) (k+1) else match escQ m t with
   | none=>none
   | some (b,n)=>quoGo m f (t.drop n) (acc++b) (k+1+n):=rfl
theorem ofB_four (m:Int):(ofB m).length≤4:=by
 rw[ofB_len2]
 rcases ofI_is (n:=m) with ⟨_,h⟩|⟨_,_,h⟩|⟨_,_,h⟩|⟨_,h⟩<;>rw[h]<;>simp
theorem escQ_in {m:UInt8} {l b:List UInt8} {n:Nat} (h:escQ m l=some (b,n)):n≤l.length∧1≤n∧b.length≤4:=by
 have hu : ∀ (l t:List UInt8),l.length=t.length+1→escU l t=some (b,n)→n≤l.length∧1≤n∧b.length≤4:=by
   intro l t hlt h
   unfold escU at h
   split at h
   ·cases h
   rename_i v hv
   have h4:4≤t.length:=by
     by_cases h4:4≤t.length
     ·exact h4
     ·rw[show hex4 t=none from hexG4_short 4 t 0 (by omega)] at hv;cases hv
   split at h
   ·cases h
   split at h
   ·injection h with h
    injection h with h1 h2
    subst h1 h2
    have:=ofB_four v
    omega
   ·unfold escP at h
    split at h
    ·split at h
     ·cases h
     rename_i w hw
     have h11:11≤l.length:=by
       by_cases h11:11≤l.length
       ·exact h11
       ·rw[show hex4 (l.drop 7)=none from hexG4_short 4 _ 0 (by rw[List.length_drop];omega)] at hw;cases hw
     split at h
     ·cases h
     ·injection h with h
      injection h with h1 h2
      subst h1 h2
      have:=ofB_four (65536+(v-55296)*1024+w-56320)
      omega
    ·cases h
 cases l with
 | nil=>cases h
 | cons c t =>
   rw[escQ_cons] at h
   split at h
   ·injection h with h;injection h with h1 h2;subst h1 h2;simp
   split at h
   ·injection h with h;injection h with h1 h2;subst h1 h2;simp
   split at h
   ·cases h
   ·exact hu (c :: t) t rfl h
theorem rescape_no {s:ByteArray} {m:UInt8} (h:escQ m s.data.toList=none) (hs:s.size≤1000000) (w:World) :
   Calls Tryz.prog 85 #[.string s,.int .u8 m.toNat] w fun e w'=>e=.returned (.tuple #[.slice none 0 0,.int .i64 0])∧Below w.heap.size w w':=by
 refine (rescape14_any s m w hs).mono fun e w' he => ?_
 unfold EsEnd at he
 rw[h] at he
 exact he
theorem rescape_yes {s:ByteArray} {m:UInt8} {b:List UInt8} {n L:Nat} (h:escQ m s.data.toList=some (b,n)) (hL:b.length=L) (hs:s.size≤1000000) (w:World) :
   Calls Tryz.prog 85 #[.string s,.int .u8 m.toNat] w fun e w' => ∃ A c,e=.returned (.tuple #[.slice A L c,.int .i64 n])∧Rd w' w'.heap.size A L (byteCells b)∧Below w.heap.size w w':=by
 refine (rescape14_any s m w hs).mono fun e w' he => ?_
 unfold EsEnd at he
 rw[h] at he
 obtain ⟨⟨A,c,he,hr⟩,hb⟩:=he
 rw[hL] at he hr
 exact ⟨A,c,he,hr,hb⟩
def QoS (W:World)(vo:Value)(acc:List UInt8)(w:World):Prop:=Buf w W.heap.size vo acc∧Below W.heap.size W w
theorem QoS.on {W w w':World}{vo:Value}{acc:List UInt8}(h:QoS W vo acc w)(hb:Below w.heap.size w w'):QoS W vo acc w':=⟨h.1.stay hb (Nat.le_refl _),h.2.trans (hb.mono h.2.size)⟩
theorem QoS.drew {W w:World}{vo:Value}{acc:List UInt8}(h:QoS W vo acc w):QoS W vo acc w.drew:=h.on ⟨rfl,rfl,rfl,Nat.le_refl _,fun _ _=>rfl⟩
theorem QoS.drewN {W w:World}{vo:Value}{acc:List UInt8}(h:QoS W vo acc w)(n:Nat):QoS W vo acc (w.drewN n):=h.on ⟨rfl,rfl,rfl,Nat.le_refl _,fun _ _=>rfl⟩
theorem QoS.below {W w:World}{vo:Value}{acc:List UInt8}(h:QoS W vo acc w):Below W.heap.size W w:=h.2
def QuEnd (l:List UInt8) (W:World) (e:Ending) (w':World):Prop :=
 (match quoQ l with
   | none=>e=.returned (.tuple #[.string ⟨#[]⟩,.int .i64 0])
   | some (b,n)=>e=.returned (.tuple #[.string ⟨b.toArray⟩,.int .i64 n]))∧Below W.heap.size W w'
theorem QuEnd.no {l:List UInt8}{W w':World}(h:quoQ l=none)(hb:Below W.heap.size W w'):QuEnd l W (.returned (.tuple #[.string ⟨#[]⟩,.int .i64 0])) w':=by unfold QuEnd;rw[h];exact ⟨rfl,hb⟩
theorem QuEnd.yes {l b:List UInt8}{n:Nat}{k:Int}{W w':World}(h:quoQ l=some (b,n))(hk:(n:Int)=k)(hb:Below W.heap.size W w'):QuEnd l W (.returned (.tuple #[.string ⟨b.toArray⟩,.int .i64 k])) w':=by unfold QuEnd;rw[h,← hk];exact ⟨rfl,hb⟩
def RelQu (s:ByteArray) (m:UInt8) (W:World) (vo va:Value) (wr:World):Prop :=
 ∃ (k f:Nat) (acc:List UInt8) (V:Value),V=vo∧1≤k∧k≤s.size∧va=.int .i64 k∧QoS W vo acc wr∧acc.length≤4*k∧quoGo m f (s.data.toList.drop k) acc k=quoQ s.data.toList∧s.size<f+k
theorem rquoted_any (s:ByteArray) (W:World) (hs:s.size≤1000000) (h0:0<s.size) :
   Calls Tryz.prog 71 #[.string s] W (QuEnd s.data.toList W):=by
 obtain ⟨m,hm⟩:∃ m,s[0]=m:=⟨_,rfl⟩
 have hx0:0<s.data.toList.length:=h0
 have hst:quoGo m (s.size) (s.data.toList.drop 1) [] 1=quoQ s.data.toList:=by
   have hcons:=List.drop_eq_getElem_cons hx0
   rw[List.drop_zero] at hcons
   have hz:s.data.toList[0]=m:=hm
   have hl:(s.data.toList.drop 1).length+1=s.size:=by rw[List.length_drop];show s.size-1+1=s.size;omega
   conv=>rhs;rw[hcons,hz]
   show _=quoGo m ((s.data.toList.drop 1).length+1) (s.data.toList.drop 1) [] 1
   rw[hl]
 have HST:=hid hst
 clear hst
 go_enter Tryz.func71,Tryz.ntmps71
 go_wp2
 go_loopw [4,5] (fun vo va wr=>RelQu s m W vo va wr) (fun _ va _=>s.size-(intOf va).toNat)
 case atStart=>exact ⟨1,s.size,[],_,rfl,Nat.le_refl _,h0,rfl,⟨Buf.made W #[] [] rfl (by simp[maxLen]) (Nat.le_refl _),below1 _ _⟩,by simp,HST.out,by omega⟩
 case round =>
   obtain ⟨k,f,acc,V,rfl,hk1,hks,rfl,hq,hal,hgo,hf⟩:=hrel
   obtain ⟨f,rfl⟩:∃ g,f=g+1:=⟨f-1,by omega⟩
   by_cases hlt:k<s.size
   rotate_left
   ·have hltI:¬ (k:Int)<s.size:=by omega
    have HN:=hid (show quoQ s.data.toList=none by rw[← hgo,List.drop_of_length_le (by show s.size≤k;omega)];rfl)
    have HB:=hid hq.2
    clear hgo hq
    go_wp2
    go_ret2
    exact QuEnd.no HN.out HB.out
   have hltI:(k:Int)<s.size:=by omega
   have hx:k<s.data.toList.length:=hlt
   rw[List.drop_eq_getElem_cons hx,quoGo_on] at hgo
   have hgo:(if s[k]=m then some (acc,k+1) else if s[k].toNat<32 then none else if s[k]≠92 then quoGo m f (s.data.toList.drop (k+1)) (acc++[s[k]]) (k+1) else match escQ m (s.data.toList.drop (k+1)) with
     | none=>none
     | some (b,n)=>quoGo m f ((s.data.toList.drop (k+1)).drop n) (acc++b) (k+1+n))=quoQ s.data.toList:=hgo
   have HQ:=hid hq
   have HW:=hid hq.2
   by_cases hcm:s[k]=m
   ·rw[if_pos hcm] at hgo
    have HG:=hid hgo.symm
    have gm:((s[k].toNat:Int)==m.toNat)=true:=byteI_eq hcm
    have cv:=hq.1.conv
    clear hgo hcm hq
    go_wp2
    go_quiet (fail)
    have cv:=(HQ.out.drewN nq).1.conv
    go_wp2
    go_ret2
    exact QuEnd.yes HG.out (by omega) (below_drewN HW.out _)
   rw[if_neg hcm] at hgo
   have gm:((s[k].toNat:Int)==m.toNat)=false:=byteI_ne hcm
   by_cases h32:s[k].toNat<32
   ·rw[if_pos h32] at hgo
    have HN:=hid hgo.symm
    have g32:(s[k].toNat:Int)<32:=by omega
    clear hgo hcm hq
    go_wp2
    go_quiet (fail)
    go_wp2
    go_ret2
    exact QuEnd.no HN.out (below_drewN HW.out _)
   rw[if_neg h32] at hgo
   have g32:¬ (s[k].toNat:Int)<32:=by omega
   by_cases h92:s[k]=92
   rotate_left
   ·rw [if_pos h92] at hgo
    have g92:((s[k].toNat:Int) != 92)=true:=by
      rw[bne_iff_ne];intro e;exact h92 (UInt8.toNat_inj.1 (by show s[k].toNat=92;omega))
    have HG:=hid hgo
    clear hgo hcm hq h92 h32
    go_wp2
    go_quiet (fail)
    have hq1:=HQ.out.drewN nq
    generalize wr.drewN nq=w1 at *
    have HQ1:=hid (fun o=>hq1.on (below1 w1 o))
    have HR:=hid (show Rd (w1.alloc (.cells #[.int .u8 s[k].toNat] 5)) (w1.alloc (.cells #[.int .u8 s[k].toNat] 5)).heap.size (some ⟨w1.heap.size,0,none⟩) 1 (byteCells [s[k]]) from (lit_rd w1 #[.int .u8 s[k].toNat] [s[k]] rfl).more (by simp))
    have hz1:=hq1.2.size
    clear hq1
    go_wp2_with (
      (at_builtin
       go_must (
         refine buf_append _ rfl (.tmp 31) (.tmp 35) rfl W.heap.size _ acc rfl (HQ1.out _).1 _ _ 1 _ [s[k]] rfl HR.out (by omega) (by simp;omega) ?_
         intro v4 w4 hbuf4 hb4
         have HB4:=hid ((HQ1.out _).2.trans hb4))))
    go_roundw
    case rel=>exact ⟨k+1,f,acc++[s[k]],_,rfl,by omega,hlt,by go_num,⟨hbuf4,HB4.out⟩,by rw[List.length_append];simp;omega,HG.out,by omega⟩
    case measure=>simp[intOf];omega
   ·rw [if_neg (fun h=>h h92)] at hgo
    have g92:((s[k].toNat:Int) != 92)=false:=by rw[h92];rfl
    have hle:k+1≤s.size:=by omega
    have hleI:(k:Int)+1≤s.size:=by omega
    have hk0:(0:Int)≤(k:Int)+1:=by omega
    have hk9:(k:Int)≤1000000:=by omega
    have htn:((k:Int)+1).toNat=k+1:=by omega
    have hwr:IntKind.i64.wrap ((k:Int)+1)=(k:Int)+1:=by simp[IntKind.wrap,IntKind.bits,IntKind.signed];omega
    have ht:=tail13 s (k+1) hle
    have hz:=tail_size s (k+1) hle
    cases hx:escQ m (s.data.toList.drop (k+1)) with
    | none =>
      have HE:=hid (fun w=>rescape_no (s:=s.extract (k+1) s.size) (m:=m) (by rw[ht];exact hx) (by omega) w)
      rw[hx] at hgo
      have HN:=hid (show quoQ s.data.toList=none from hgo.symm)
      clear hgo hcm hx h92 h32 ht hz hq
      go_wp2
      go_quiet (fail)
      have hq1:=HQ.out.drewN nq
      generalize wr.drewN nq=w1 at *
      go_wp2
      go_region_held3 (fun w'=>QoS W V acc w')
        (first|assumption|exact QoS.drew (by assumption)|exact QoS.on (by assumption) (by assumption))
        (first|(go_at_call 85;with_reducible refine (HE.out _).mono ?_;rintro e w' ⟨rfl,hb'⟩))
      all_goals
        have HB4:=hid (QoS.below (W:=W) (vo:=V) (acc:=acc) (by assumption))
        go_wp2
        go_ret2
        exact QuEnd.no HN.out HB4.out
    | some p =>
      obtain ⟨b,n⟩:=p
      obtain ⟨n9,n1,b4⟩:=escQ_in hx
      rw[List.length_drop] at n9
      have n9:n≤s.size-(k+1):=n9
      rw[hx] at hgo
      have hgo:quoGo m f ((s.data.toList.drop (k+1)).drop n) (acc++b) (k+1+n)=quoQ s.data.toList:=hgo
      rw[List.drop_drop] at hgo
      have HG:=hid hgo
      obtain ⟨L,hL⟩:∃ L,b.length=L:=⟨_,rfl⟩
      have HE:=hid (fun w=>rescape_yes (s:=s.extract (k+1) s.size) (m:=m) (by rw[ht];exact hx) hL (by omega) w)
      have HL:=hid hL
      have hL4:L≤4:=by omega
      have nI:((n:Int)==0)=false:=beq_eq_false_iff_ne.2 (by omega)
      clear hgo hcm hx h92 h32 ht hz hq hL b4
      go_wp2
      go_quiet (fail)
      have hq1:=HQ.out.drewN nq
      generalize wr.drewN nq=w1 at *
      go_wp2
      go_region_held3 (fun w'=>QoS W V acc w')
        (first|assumption|exact QoS.drew (by assumption)|exact QoS.on (by assumption) (by assumption))
        (first|(go_at_call 85;with_reducible refine (HE.out _).mono ?_;rintro e w' ⟨A4,c4,rfl,r4,hb'⟩))
      all_goals
        have hq2:QoS W V acc w':=by assumption
        have HQ2:=hid hq2
        have hz2:=hq2.2.size
        have R4:=hid r4
        clear r4 hq2 hb'
        go_wp2_with (
          (at_builtin
           go_must (
             refine buf_append _ rfl (.tmp 51) (.tmp 52) rfl W.heap.size _ acc rfl HQ2.out.1 _ _ L _ b rfl R4.out (by omega) hz2 ?_
             intro v5 w5 hbuf5 hb5
             have HB5:=hid (HQ2.out.2.trans hb5))))
        go_roundw
        case rel=>exact ⟨k+1+n,f,acc++b,_,rfl,by omega,by omega,by go_num,⟨hbuf5,HB5.out⟩,by rw[List.length_append,HL.out];omega,HG.out,by omega⟩
        case measure=>simp[intOf];omega
end
section
open Go.RowKit
theorem firstB_is (c:UInt8):firstB c=(isAlphaI c.toNat||(c.toNat:Int)==95||decide ((c.toNat:Int)≥128)):=by
 have h:∀ n:Fin 256,firstB (UInt8.ofNat n)=(isAlphaI ((UInt8.ofNat n).toNat)||((UInt8.ofNat n).toNat:Int)==95||decide (((UInt8.ofNat n).toNat:Int)≥128)):=by decide +kernel
 have:=h ⟨c.toNat,c.toNat_lt⟩
 simp only [UInt8.ofNat_toNat] at this
 exact this
theorem rfirst_any (c:UInt8) (w:World) :
   Calls Tryz.prog 59 #[.int .u8 c.toNat] w fun e w'=>e=.returned (.bool (firstB c))∧w=w':=by
 rw[firstB_is]
 have HA:=hid (fun w=>ralpha_any c.toNat w)
 cases ha:isAlphaI c.toNat
 ·rw [ha] at HA
  by_cases h95:(c.toNat:Int)=95
  ·rw[h95]
   have HA:=hid (show ∀ w,Calls Tryz.prog 74 #[.int .u8 95] w fun e w'=>e=.returned (.bool false)∧w=w' by rw[← h95];exact HA.out)
   clear ha h95
   go_enter Tryz.func59,Tryz.ntmps59
   go_wp2_with (go_at_call 74;refine (HA.out _).mono ?_;rintro e w' ⟨rfl,rfl⟩)
   go_ret
   exact ⟨rfl,rfl⟩
  ·have g95:((c.toNat:Int)==95)=false:=beq_eq_false_iff_ne.2 h95
   rw[g95]
   by_cases h128:(c.toNat:Int)≥128
   ·rw[decide_eq_true h128]
    clear ha h95
    go_enter Tryz.func59,Tryz.ntmps59
    go_wp2_with (go_at_call 74;refine (HA.out _).mono ?_;rintro e w' ⟨rfl,rfl⟩)
    go_ret
    exact ⟨rfl,rfl⟩
   ·rw[decide_eq_false h128]
    clear ha h95
    go_enter Tryz.func59,Tryz.ntmps59
    go_wp2_with (go_at_call 74;refine (HA.out _).mono ?_;rintro e w' ⟨rfl,rfl⟩)
    go_ret
    exact ⟨ret_b (show decide (128≤(c.toNat:Int))=false from decide_eq_false (by omega)),rfl⟩
 ·rw[ha] at HA
  clear ha
  go_enter Tryz.func59,Tryz.ntmps59
  go_wp2_with (go_at_call 74;refine (HA.out _).mono ?_;rintro e w' ⟨rfl,rfl⟩)
  go_ret
  exact ⟨rfl,rfl⟩
theorem plnN_le:∀ (b:Bool) (l:List UInt8),plnN b l≤l.length
 | _,[]=>Nat.le_refl _
 | b,c :: t=>by
   have:=plnN_le true t
   unfold plnN
   split
   ·simpa using this
   ·simp
theorem plnN_drop (b:Bool) (s:ByteArray) (k:Nat) (h:k<s.size):plnN b (s.data.toList.drop k)=if firstB s[k]||(b&&digB s[k]) then plnN true (s.data.toList.drop (k+1))+1 else 0:=by
 have hx:k<s.data.toList.length:=h
 rw[List.drop_eq_getElem_cons hx]
 rfl
def RelPl (s:ByteArray) (W:World) (v:Value) (wr:World):Prop :=
 ∃ k:Nat,v=.int .i64 k∧k≤s.size∧k+plnN (decide (0<k)) (s.data.toList.drop k)=plnN false s.data.toList∧W=wr
theorem rplain_any (s:ByteArray) (W:World) (hs:s.size≤1000000) :
   Calls Tryz.prog 46 #[.string s] W fun e w'=>e=.returned (.int .i64 (plnN false s.data.toList))∧W=w':=by
 go_enter Tryz.func46,Tryz.ntmps46
 go_wp2
 go_loopw [3] (fun v wr=>RelPl s W v wr) (fun v _=>s.size-(intOf v).toNat)
 case atStart=>exact ⟨0,rfl,Nat.zero_le _,by simp,rfl⟩
 case round =>
   obtain ⟨k,rfl,hk,hr,rfl⟩:=hrel
   by_cases hlt:k<s.size
   ·have hltI:(k:Int)<s.size:=by omega
    have HF:=hid (fun w=>rfirst_any s[k] w)
    have HD:=hid (fun w=>rdigit_any s[k].toNat w)
    rw[digB_is] at HD
    rw[plnN_drop _ s k hlt] at hr
    have hp1:decide (0<k+1)=true:=decide_eq_true (by omega)
    cases hf:firstB s[k]
    ·rw [hf] at HF hr
     by_cases hk0:0<k
     ·rw [decide_eq_true hk0] at hr
      have hk0I:(k:Int)>0:=by omega
      cases hd:digB s[k]
      ·rw [hd] at HD hr
       have HR:=hid (show k+0=plnN false s.data.toList from hr)
       clear hr hd hf
       go_wp2_with (first
         | (go_at_call 59;refine (HF.out _).mono ?_;rintro e w' ⟨rfl,rfl⟩)
         | (go_at_call 60;refine (HD.out _).mono ?_;rintro e w' ⟨rfl,rfl⟩))
       go_ret
       exact ⟨ret_i (by have:=HR.out;omega),rfl⟩
      ·rw [hd] at HD hr
       have HR:=hid (show k+(plnN true (s.data.toList.drop (k+1))+1)=plnN false s.data.toList from hr)
       clear hr hd hf
       go_wp2_with (first
         | (go_at_call 59;refine (HF.out _).mono ?_;rintro e w' ⟨rfl,rfl⟩)
         | (go_at_call 60;refine (HD.out _).mono ?_;rintro e w' ⟨rfl,rfl⟩))
       go_roundw
       case rel=>exact ⟨k+1,by go_num,hlt,by rw[hp1];have:=HR.out;omega,rfl⟩
       case measure=>simp[intOf];omega
     ·rw[decide_eq_false hk0] at hr
      have hk0I:¬ (k:Int)>0:=by omega
      have HR:=hid (show k+0=plnN false s.data.toList from hr)
      clear hr hf
      go_wp2_with (go_at_call 59;refine (HF.out _).mono ?_;rintro e w' ⟨rfl,rfl⟩)
      go_ret
      exact ⟨ret_i (by have:=HR.out;omega),rfl⟩
    ·rw[hf] at HF hr
     have HR:=hid (show k+(plnN true (s.data.toList.drop (k+1))+1)=plnN false s.data.toList from hr)
     clear hr hf
     go_wp2_with (go_at_call 59;refine (HF.out _).mono ?_;rintro e w' ⟨rfl,rfl⟩)
     go_roundw
     case rel=>exact ⟨k+1,by go_num,hlt,by rw[hp1];have:=HR.out;omega,rfl⟩
     case measure=>simp[intOf];omega
   ·have hltI:¬ (k:Int)<s.size:=by omega
    rw[List.drop_of_length_le (by show s.size≤k;omega)] at hr
    have HR:=hid (show k+0=plnN false s.data.toList from hr)
    clear hr
    go_wp2
    go_ret
    exact ⟨ret_i (by have:=HR.out;omega),rfl⟩
end
end Go.Proofs.YtmgdjlkndbejkaaGreatDoor
