/- Lemmas. -/
import Derived.Test.YtmgdjlkndbejkaaGreatDoorJ29
import Derived.Test.YtmgdjlkndbejkaaGreatDoorJ24
import Derived.Deep.RegionWith
set_option maxRecDepth 100000
set_option maxHeartbeats 8000000
set_option linter.unusedVariables false
set_option linter.unusedSimpArgs false
namespace Go.Proofs.YtmgdjlkndbejkaaGreatDoor
open Go.Lib (hid)
section
open Go.RowKit
def RdR (w:World)(b:Nat)(l:List UInt8):Prop:=Own w b 47 #[.string ⟨l.toArray⟩]
def Went (w:World)(b:Nat)(l:List UInt8)(w':World):Prop:=RdR w' b l∧Turned b w w'
theorem RdR.at0 {w:World}{b:Nat}{l:List UInt8}(h:RdR w b l):w.cell? ⟨b,0,none⟩=some (.string ⟨l.toArray⟩):=Own.at h 0
theorem RdR.free0 {w:World}{b:Nat}{l:List UInt8}(h:RdR w b l):w.frozen? ⟨b,0,none⟩=false:=Own.free h 0
theorem RdR.put0 {w:World}{b:Nat}{l m:List UInt8}(h:RdR w b l):Went w b m (w.setCell ⟨b,0,none⟩ (.string ⟨m.toArray⟩)):=⟨by unfold RdR;simpa using Own.put h 0 (.string ⟨m.toArray⟩),(Turned.refl b w).put 0 _⟩
theorem Went.trans {u v w:World}{b:Nat}{l m:List UInt8}(h:Went u b l v)(g:Went v b m w):Went u b m w:=⟨g.1,h.2.trans g.2⟩
theorem RdR.same {w:World}{b:Nat}{l:List UInt8}(h:RdR w b l):Went w b l w:=⟨h,Turned.refl b w⟩
theorem Own.turned {w w':World}{b c:Nat}{t:TypeId}{cs:Array Value}(h:Own w c t cs)(ht:Turned b w w')(hc:c≠b):Own w' c t cs:=(ht.2.2.2.2 c h.inside hc).trans h
theorem list_ba (l:List UInt8):(⟨l.toArray⟩:ByteArray).data.toList=l:=rfl
theorem take_any (b:Nat) (p:ByteArray) (l:List UInt8) (w:World) (h:RdR w b l) :
   Calls Tryz.prog 15 #[.pointer (some ⟨b,0,none⟩),.string p] w fun e w'=>e=.returned (.bool (Lib.hasPrefix l p.data.toList))∧Went w b (Lib.trimPrefix l p.data.toList) w':=by
 have HC:=hid (fun w=>Tryz.strings_CutPrefix ⟨l.toArray⟩ p w)
 rw[list_ba] at HC
 have HP:=hid (h.put0 (m:=Lib.trimPrefix l p.data.toList))
 have c0:=h.at0
 have f0:=h.free0
 generalize Lib.trimPrefix l p.data.toList=tr at *
 generalize Lib.hasPrefix l p.data.toList=ok at *
 clear h
 go_enter Tryz.func15,Tryz.ntmps15
 go_wp2_with (go_at_call 35;refine (HC.out _).mono ?_;rintro e w' ⟨rfl,rfl⟩)
 go_ret
 exact ⟨rfl,HP.out⟩
theorem pre_one (c:UInt8) (l:List UInt8):Lib.hasPrefix l [c]=decide (l.head?=some c):=by
 cases l with
 | nil=>rfl
 | cons a t =>
   unfold Lib.hasPrefix
   by_cases hc:c=a
   ·simp[List.isPrefixOf,hc]
   ·simp only [List.isPrefixOf,List.head?_cons,Option.some.injEq,Bool.and_true]
    rw[beq_eq_false_iff_ne.2 hc,decide_eq_false (fun e=>hc e.symm)]
theorem trim_one (c:UInt8) (l:List UInt8) (h:l.head?=some c):Lib.trimPrefix l [c]=l.tail:=by
 unfold Lib.trimPrefix
 rw[pre_one,if_pos (decide_eq_true h)]
 simp
theorem take_yes (b:Nat) (c:UInt8) (t:List UInt8) (w:World) (h:RdR w b (c :: t)) :
   Calls Tryz.prog 15 #[.pointer (some ⟨b,0,none⟩),.string ⟨#[c]⟩] w fun e w'=>e=.returned (.bool true)∧Went w b t w':=by
 have:=take_any b ⟨#[c]⟩ _ w h
 rw[show (⟨#[c]⟩:ByteArray).data.toList=[c] from rfl,pre_one,trim_one c _ rfl,decide_eq_true (show (c :: t).head?=some c from rfl)] at this
 exact this
theorem take_no (b:Nat) (c:UInt8) (l:List UInt8) (w:World) (h:RdR w b l) (hc:l.head?≠some c) :
   Calls Tryz.prog 15 #[.pointer (some ⟨b,0,none⟩),.string ⟨#[c]⟩] w fun e w'=>e=.returned (.bool false)∧Went w b l w':=by
 have:=take_any b ⟨#[c]⟩ _ w h
 have hp:Lib.hasPrefix l [c]=false:=by rw[pre_one];exact decide_eq_false hc
 have ht:Lib.trimPrefix l [c]=l:=by unfold Lib.trimPrefix;rw[hp];rfl
 rw[show (⟨#[c]⟩:ByteArray).data.toList=[c] from rfl,hp,ht] at this
 exact this
theorem pre_two (c d:UInt8) (l:List UInt8):Lib.hasPrefix l [c,d]=decide (l.take 2=[c,d]):=by
 unfold Lib.hasPrefix
 cases l with
 | nil=>rfl
 | cons a t =>
   cases t with
   | nil=>simp[List.isPrefixOf]
   | cons e t =>
     show (c==a&&(d==e&&List.isPrefixOf [] t))=decide ([a,e]=[c,d])
     by_cases h:a=c∧e=d
     ·obtain ⟨rfl,rfl⟩:=h
      simp[List.isPrefixOf]
     ·rw[decide_eq_false (fun x=>by injection x with x1 x2;injection x2 with x2 _;exact h ⟨x1,x2⟩)]
      simp only [Bool.and_eq_false_iff,beq_eq_false_iff_ne]
      by_cases h1:c=a
      ·exact .inr (.inl fun h2=>h ⟨h1.symm,h2.symm⟩)
      ·exact .inl h1
theorem take_two_yes (b:Nat) (c d:UInt8) (t:List UInt8) (w:World) (h:RdR w b (c :: d :: t)) :
   Calls Tryz.prog 15 #[.pointer (some ⟨b,0,none⟩),.string ⟨#[c,d]⟩] w fun e w'=>e=.returned (.bool true)∧Went w b t w':=by
 have:=take_any b ⟨#[c,d]⟩ _ w h
 have hp:Lib.hasPrefix (c :: d :: t) [c,d]=true:=by rw[pre_two];exact decide_eq_true rfl
 have ht:Lib.trimPrefix (c :: d :: t) [c,d]=t:=by unfold Lib.trimPrefix;rw[hp];rfl
 rw[show (⟨#[c,d]⟩:ByteArray).data.toList=[c,d] from rfl,hp,ht] at this
 exact this
theorem take_two_no (b:Nat) (c d:UInt8) (l:List UInt8) (w:World) (h:RdR w b l) (hc:l.take 2≠[c,d]) :
   Calls Tryz.prog 15 #[.pointer (some ⟨b,0,none⟩),.string ⟨#[c,d]⟩] w fun e w'=>e=.returned (.bool false)∧Went w b l w':=by
 have:=take_any b ⟨#[c,d]⟩ _ w h
 have hp:Lib.hasPrefix l [c,d]=false:=by rw[pre_two];exact decide_eq_false hc
 have ht:Lib.trimPrefix l [c,d]=l:=by unfold Lib.trimPrefix;rw[hp];rfl
 rw[show (⟨#[c,d]⟩:ByteArray).data.toList=[c,d] from rfl,hp,ht] at this
 exact this
end
section
open Go.RowKit
theorem kindI_blk (c:UInt8):(kindI c.toNat==1)=blkB c:=by
 have h:∀ n:Fin 256,(kindI (UInt8.ofNat n).toNat==1)=blkB (UInt8.ofNat n):=by decide +kernel
 have:=h ⟨c.toNat,c.toNat_lt⟩
 simp only [UInt8.ofNat_toNat] at this
 exact this
theorem isEmpty_no (s:ByteArray) (h:s.size≠0):s.toList.isEmpty=false:=by
 rw[Lib.toList_data s]
 cases hc:s.data.toList with
 | nil=>exact absurd (show s.size=0 from congrArg List.length hc) h
 | cons a b=>rfl
def muR (b:Nat) (w:World):Nat:=match w.cell? ⟨b,0,none⟩ with
 | some (.string s)=>s.size
 | _=>0
theorem muR_is {w:World} {b:Nat} {l:List UInt8} (h:RdR w b l):muR b w=l.length:=by
 unfold muR
 rw[h.at0]
 rfl
def RelSk (b:Nat)(l:List UInt8)(W wr:World):Prop:=∃ r,Went W b r wr∧skB r=skB l∧r.length≤l.length
theorem skip_any (b:Nat) (l:List UInt8) (W:World) (h:RdR W b l) (hl:l.length≤1000000) :
   Calls Tryz.prog 36 #[.pointer (some ⟨b,0,none⟩)] W fun e w'=>e=.returned (.tuple #[])∧Went W b (skB l) w':=by
 have HR0:=hid (show RelSk b l W W from ⟨l,h.same,rfl,Nat.le_refl _⟩)
 clear h
 go_enter Tryz.func36,Tryz.ntmps36
 go_wp2
 go_loopw [2] (fun _ wr=>RelSk b l W wr) (fun _ wr=>muR b wr)
 case atStart=>exact HR0.out
 case round =>
   obtain ⟨r,hw,hs,hrl⟩:=hrel
   have c0:=hw.1.at0
   have f0:=hw.1.free0
   have HW:=hid hw
   cases r with
   | nil =>
     have HS:=hid hs
     clear hw hs
     go_wp2
     go_end0
     exact ⟨rfl,by rw[← HS.out];exact HW.out⟩
   | cons c t =>
     have HK:=hid (fun w=>kind_any c.toNat w)
     have hk:=kindI_blk c
     generalize kindI c.toNat=kd at *
     have hz:(⟨(c :: t).toArray⟩:ByteArray).size=t.length+1:=rfl
     have h0:(0:Int)<(⟨(c :: t).toArray⟩:ByteArray).size:=by rw[hz];omega
     have h00:0<(⟨(c :: t).toArray⟩:ByteArray).size:=by rw[hz];omega
     have h1:(1:Int)≤(⟨(c :: t).toArray⟩:ByteArray).size:=by rw[hz];omega
     have he:=isEmpty_no (⟨(c :: t).toArray⟩:ByteArray) (by rw[hz];omega)
     have hi:(⟨(c :: t).toArray⟩:ByteArray)[0]=c:=rfl
     have ht:(⟨(c :: t).toArray⟩:ByteArray).extract 1 (⟨(c :: t).toArray⟩:ByteArray).size=⟨t.toArray⟩:=by
       have:=tail13 (⟨(c :: t).toArray⟩:ByteArray) 1 (by rw[hz];omega)
       rw[← ba_list ((⟨(c :: t).toArray⟩:ByteArray).extract 1 _),this]
       rfl
     have hsz:(⟨(c :: t).toArray⟩:ByteArray).size≤1000000:=by rw[hz];simp at hrl;omega
     generalize (⟨(c :: t).toArray⟩:ByteArray)=s at *
     cases hb:blkB c with
     | false =>
       rw[hb] at hk
       have HS:=hid (show skB (c :: t)=skB l from hs)
       have hsk:skB (c :: t)=c :: t:=skB_id (if_neg (by rw[hb];decide))
       have HE:=hid (show Went W b (skB l) wr by rw[← hs,hsk];exact hw)
       clear hs hsk hw hz ht hb hrl
       go_wp2_with (go_at_call 53;refine (HK.out _).mono ?_;rintro e w' ⟨rfl,rfl⟩)
       go_end0
       exact ⟨rfl,HE.out⟩
     | true =>
       rw[hb] at hk
       have hsk:skB (c :: t)=skB t:=by unfold skB;rw[show runB (c :: t)=runB t+1 from if_pos hb];rfl
       have hgo:Went W b t (wr.setCell ⟨b,0,none⟩ (.string ⟨t.toArray⟩)):=hw.trans (RdR.put0 hw.1)
       have HE:=hid (show RelSk b l W (wr.setCell ⟨b,0,none⟩ (.string ⟨t.toArray⟩)) from ⟨t,hgo,by rw[← hs,hsk],by simp at hrl;omega⟩)
       have HM:=hid (show muR b (wr.setCell ⟨b,0,none⟩ (.string ⟨t.toArray⟩))<muR b wr by rw[muR_is hgo.1,muR_is hw.1];simp)
       have HT:=hid ht
       clear hs hsk hw hz ht hb hrl hgo
       go_wp2_with (go_at_call 53;refine (HK.out _).mono ?_;rintro e w' ⟨rfl,rfl⟩)
       go_roundw
       case rel=>rw[HT.out];exact HE.out
       case measure=>rw[HT.out];exact HM.out
end
section
open Go.RowKit
theorem firstB_isq (c:UInt8):firstB c=(isAlphaI c.toNat||(c.toNat:Int)==95||decide ((c.toNat:Int)≥128)):=by
 have h:∀ n:Fin 256,firstB (UInt8.ofNat n)=(isAlphaI ((UInt8.ofNat n).toNat)||((UInt8.ofNat n).toNat:Int)==95||decide (((UInt8.ofNat n).toNat:Int)≥128)):=by decide +kernel
 have:=h ⟨c.toNat,c.toNat_lt⟩
 simp only [UInt8.ofNat_toNat] at this
 exact this
theorem begins_q (c:UInt8) (w:World) :
   Calls Tryz.prog 70 #[.int .u8 c.toNat] w fun e w'=>e=.returned (.bool (firstB c))∧w=w':=by
 rw[firstB_isq]
 have HA:=hid (fun w=>alpha_any c.toNat w)
 cases ha:isAlphaI c.toNat
 ·rw [ha] at HA
  by_cases h95:(c.toNat:Int)=95
  ·rw[h95]
   have HA:=hid (show ∀ w,Calls Tryz.prog 84 #[.int .u8 95] w fun e w'=>e=.returned (.bool false)∧w=w' by rw[← h95];exact HA.out)
   clear ha h95
   go_enter Tryz.func70,Tryz.ntmps70
   go_wp2_with (go_at_call 84;refine (HA.out _).mono ?_;rintro e w' ⟨rfl,rfl⟩)
   go_ret
   exact ⟨rfl,rfl⟩
  ·have g95:((c.toNat:Int)==95)=false:=beq_eq_false_iff_ne.2 h95
   rw[g95]
   by_cases h128:(c.toNat:Int)≥128
   ·rw[decide_eq_true h128]
    clear ha h95
    go_enter Tryz.func70,Tryz.ntmps70
    go_wp2_with (go_at_call 84;refine (HA.out _).mono ?_;rintro e w' ⟨rfl,rfl⟩)
    go_ret
    exact ⟨rfl,rfl⟩
   ·rw[decide_eq_false h128]
    clear ha h95
    go_enter Tryz.func70,Tryz.ntmps70
    go_wp2_with (go_at_call 84;refine (HA.out _).mono ?_;rintro e w' ⟨rfl,rfl⟩)
    go_ret
    exact ⟨ret_b (show decide (128≤(c.toNat:Int))=false from decide_eq_false (by omega)),rfl⟩
 ·rw[ha] at HA
  clear ha
  go_enter Tryz.func70,Tryz.ntmps70
  go_wp2_with (go_at_call 84;refine (HA.out _).mono ?_;rintro e w' ⟨rfl,rfl⟩)
  go_ret
  exact ⟨rfl,rfl⟩
theorem pln_le:∀ (b:Bool) (l:List UInt8),plnN b l≤l.length
 | _,[]=>Nat.le_refl _
 | b,c :: t=>by
   have:=pln_le true t
   unfold plnN
   split
   ·simpa using this
   ·simp
theorem pln_drop (b:Bool) (s:ByteArray) (k:Nat) (h:k<s.size):plnN b (s.data.toList.drop k)=if firstB s[k]||(b&&digB s[k]) then plnN true (s.data.toList.drop (k+1))+1 else 0:=by
 have hx:k<s.data.toList.length:=h
 rw[List.drop_eq_getElem_cons hx]
 rfl
theorem ext_tail (s:ByteArray)(k:Nat)(hk:k≤s.size):s.extract k s.size=⟨(s.data.toList.drop k).toArray⟩:=by rw[← tail13 s k hk,ba_list]
theorem ext_head (s:ByteArray) (k:Nat) (hk:k≤s.size):s.extract 0 k=⟨(s.data.toList.take k).toArray⟩:=by
 have:(s.extract 0 k).data.toList=s.data.toList.take k:=by
   rw[ByteArray.data_extract,Array.toList_extract,List.extract_eq_take_drop]
   simp
 rw[← this,ba_list]
theorem retQ {a b:ByteArray}(h:a=b):Ending.returned (.string a)=.returned (.string b):=by rw[h]
def RelPn (b:Nat) (s:ByteArray) (W:World) (v:Value) (wr:World):Prop :=
 ∃ k:Nat,v=.int .i64 k∧k≤s.size∧k+plnN (decide (0<k)) (s.data.toList.drop k)=plnN false s.data.toList∧W=wr
theorem plain_any (b:Nat) (l:List UInt8) (W:World) (h:RdR W b l) (hl:l.length≤1000000) :
   Calls Tryz.prog 55 #[.pointer (some ⟨b,0,none⟩)] W fun e w'=>e=.returned (.string ⟨(l.take (plnN false l)).toArray⟩)∧Went W b (l.drop (plnN false l)) w':=by
 obtain ⟨s,rfl⟩:∃ s:ByteArray,l=s.data.toList:=⟨⟨l.toArray⟩,rfl⟩
 have hs:s.size≤1000000:=hl
 have c0:=h.at0
 have f0:=h.free0
 rw[ba_list] at c0
 have HPut:=hid (fun m=>h.put0 (m:=m))
 clear h hl
 go_enter Tryz.func55,Tryz.ntmps55
 go_wp2
 go_loopw [3] (fun v wr=>RelPn b s W v wr) (fun v _=>s.size-(intOf v).toNat)
 case atStart=>exact ⟨0,rfl,Nat.zero_le _,by simp,rfl⟩
 case round =>
   obtain ⟨k,rfl,hk,hr,rfl⟩:=hrel
   by_cases hlt:k<s.size
   ·have hltI:(k:Int)<s.size:=by omega
    have hkI:(k:Int)≤s.size:=by omega
    have HF:=hid (fun w=>begins_q s[k] w)
    have HD:=hid (fun w=>digit_any s[k].toNat w)
    rw[digB_is] at HD
    rw[pln_drop _ s k hlt] at hr
    have hp1:decide (0<k+1)=true:=decide_eq_true (by omega)
    cases hf:firstB s[k]
    ·rw [hf] at HF hr
     by_cases hk0:0<k
     ·rw [decide_eq_true hk0] at hr
      have hk0I:(k:Int)>0:=by omega
      cases hd:digB s[k]
      ·rw [hd] at HD hr
       have EQ:=hid (show k=plnN false s.data.toList from hr)
       have HE:=hid (ext_head s _ hk)
       have HT:=hid (ext_tail s _ hk)
       clear hd hf hr
       go_wp2_with (first
         | (go_at_call 70;refine (HF.out _).mono ?_;rintro e w' ⟨rfl,rfl⟩)
         | (go_at_call 65;refine (HD.out _).mono ?_;rintro e w' ⟨rfl,rfl⟩))
       go_ret
       exact ⟨retQ (a:=s.extract 0 k) (by rw[HE.out,← EQ.out]),by rw[HT.out,← EQ.out];exact HPut.out _⟩
      ·rw [hd] at HD hr
       have HR:=hid (show k+(plnN true (s.data.toList.drop (k+1))+1)=plnN false s.data.toList from hr)
       clear hr hd hf
       go_wp2_with (first
         | (go_at_call 70;refine (HF.out _).mono ?_;rintro e w' ⟨rfl,rfl⟩)
         | (go_at_call 65;refine (HD.out _).mono ?_;rintro e w' ⟨rfl,rfl⟩))
       go_roundw
       case rel=>exact ⟨k+1,by go_num,hlt,by rw[hp1];have:=HR.out;omega,rfl⟩
       case measure=>simp[intOf];omega
     ·rw[decide_eq_false hk0] at hr
      have hk0I:¬ (k:Int)>0:=by omega
      have EQ:=hid (show k=plnN false s.data.toList from hr)
      have HE:=hid (ext_head s _ hk)
      have HT:=hid (ext_tail s _ hk)
      clear hf hr
      go_wp2_with (go_at_call 70;refine (HF.out _).mono ?_;rintro e w' ⟨rfl,rfl⟩)
      go_ret
      exact ⟨retQ (a:=s.extract 0 k) (by rw[HE.out,← EQ.out]),by rw[HT.out,← EQ.out];exact HPut.out _⟩
    ·rw[hf] at HF hr
     have HR:=hid (show k+(plnN true (s.data.toList.drop (k+1))+1)=plnN false s.data.toList from hr)
     clear hr hf
     go_wp2_with (go_at_call 70;refine (HF.out _).mono ?_;rintro e w' ⟨rfl,rfl⟩)
     go_roundw
     case rel=>exact ⟨k+1,by go_num,hlt,by rw[hp1];have:=HR.out;omega,rfl⟩
     case measure=>simp[intOf];omega
   ·have hltI:¬ (k:Int)<s.size:=by omega
    have hkI:(k:Int)≤s.size:=by omega
    rw[List.drop_of_length_le (by show s.size≤k;omega)] at hr
    have EQ:=hid (show k=plnN false s.data.toList from hr)
    have HE:=hid (ext_head s _ hk)
    have HT:=hid (ext_tail s _ hk)
    clear hr
    go_wp2
    go_ret
    exact ⟨retQ (a:=s.extract 0 k) (by rw[HE.out,← EQ.out]),by rw[HT.out,← EQ.out];exact HPut.out _⟩
end
section
open Go.RowKit
theorem int_over {d:List UInt8} {k m:Nat} (hk:k≤runD d) (h:9007199254740991<valD (d.take k) 0):intD m d (runD d)=none:=by
 unfold intD
 split
 ·rfl
 ·rw [if_pos]
  have e:d.take (runD d)=d.take k++(d.take (runD d)).drop k:=by
    have:=(List.take_append_drop k (d.take (runD d))).symm
    rw[List.take_take,Nat.min_eq_left hk] at this
    exact this
  rw[e]
  unfold valD
  rw[List.foldl_append]
  exact Nat.lt_of_lt_of_le h (valD_mono _ _)
theorem valD_low:∀ (ds:List UInt8) (a:Nat),1≤a→10 ^ ds.length*a≤valD ds a
 | [],a,h=>by simp[valD]
 | c :: t,a,h=>by
   have:=valD_low t (a*10+(c.toNat-48)) (by omega)
   show 10 ^ (t.length+1)*a≤valD t (a*10+(c.toNat-48))
   refine Nat.le_trans ?_ this
   rw[Nat.pow_succ,Nat.mul_assoc]
   exact Nat.mul_le_mul_left _ (by omega)
theorem int_fits {d:List UInt8} {m:Nat} (h48:d.head?≠some 48) (h0:runD d≠0) (h:¬ 9007199254740991<valD (d.take (runD d)) 0):intD m d (runD d)=some (if m=1 then -((valD (d.take (runD d)) 0:Nat):Int) else ((valD (d.take (runD d)) 0:Nat):Int),m+runD d):=by
 have h16 : runD d≤16:=by
   rcases Nat.lt_or_ge 16 (runD d) with hlt|hge
   ·exfalso
    have hle:=runD_le d
    have hdig:=run_dig d
    have hlen:(d.take (runD d)).length=runD d:=by rw[List.length_take];omega
    cases hds:d.take (runD d) with
    | nil=>rw[hds] at hlen;simp at hlen;omega
    | cons c t =>
      rw[hds] at hlen hdig h
      have hc:=of_decide_eq_true (show digB c=true from hdig c (by simp))
      have hne:c≠48:=by
        intro e
        refine h48 ?_
        have:(d.take (runD d)).head?=some c:=by rw[hds];rfl
        rw[List.head?_take] at this
        split at this
        ·cases this
        ·rw[this,e]
      have hc2:c.toNat≠48:=fun e=>hne (UInt8.toNat_inj.1 e)
      have:=valD_low t (c.toNat-48) (by omega)
      have hp:(10:Nat) ^ 16≤10 ^ t.length:=Nat.pow_le_pow_right (by decide) (by simp at hlen;omega)
      have hv:valD (c :: t) 0=valD t (c.toNat-48):=by unfold valD;simp[List.foldl_cons]
      have h2:10 ^ t.length*1≤10 ^ t.length*(c.toNat-48):=Nat.mul_le_mul_left _ (by omega)
      omega
   ·exact hge
 unfold intD
 rw[if_neg (by omega),if_neg h]
theorem runD_dropq (s:ByteArray) (k:Nat) (h:k<s.size):runD (s.data.toList.drop k)=if digB s[k] then runD (s.data.toList.drop (k+1))+1 else 0:=by
 have hx:k<s.data.toList.length:=h
 rw[List.drop_eq_getElem_cons hx]
 rfl
theorem valD_takeq (s:ByteArray)(k:Nat)(h:k<s.size):valD (s.data.toList.take (k+1)) 0=valD (s.data.toList.take k) 0*10+(s[k].toNat-48):=valD_take s.data.toList k h
def RelIq (d:ByteArray) (W:World) (vv vi:Value) (wr:World):Prop :=
 ∃ k:Nat,k≤d.size∧vi=.int .i64 k∧vv=.int .i64 (valD (d.data.toList.take k) 0:Nat)∧k+runD (d.data.toList.drop k)=runD d.data.toList∧valD (d.data.toList.take k) 0≤9007199254740991∧W=wr
theorem intq_zero (s:ByteArray) (W:World) (h:s.data.toList.head?=some 48) :
   Calls Tryz.prog 83 #[.string s] W (InEnd s.data.toList W):=by
 have HP:=hid (fun w=>Tryz.strings_HasPrefix s ⟨#[48]⟩ w)
 rw[show (⟨#[48]⟩:ByteArray).data.toList=[48] from rfl,pre_one,decide_eq_true h] at HP
 have hm:minB s.data.toList=0:=by unfold minB;rw[h];rfl
 have HI:=hid (show nrQ s.data.toList=some (0,1) by rw[nrQ_on hm,List.drop_zero,if_pos h];rfl)
 clear h hm
 go_enter Tryz.func83,Tryz.ntmps83
 go_wp2_with (go_at_call 99;refine (HP.out _).mono ?_;rintro e w' ⟨rfl,rfl⟩)
 go_ret3
 exact InEnd.yes HI.out rfl rfl (Below.refl _ _)
theorem intq_below (s d : ByteArray) (W:World) (hs:s.size≤1000000) (h48:s.data.toList.head?≠some 48) (hd:s.data.toList=45 :: d.data.toList) :
   Calls Tryz.prog 83 #[.string s] W (InEnd s.data.toList W):=by
 have HP:=hid (fun w=>Tryz.strings_HasPrefix s ⟨#[48]⟩ w)
 rw[show (⟨#[48]⟩:ByteArray).data.toList=[48] from rfl,pre_one,decide_eq_false h48] at HP
 have HC:=hid (fun w=>Tryz.strings_CutPrefix s ⟨#[45]⟩ w)
 rw[show (⟨#[45]⟩:ByteArray).data.toList=[45] from rfl] at HC
 have hm:minB s.data.toList=1:=by unfold minB;rw[hd];rfl
 have hdr:s.data.toList.drop 1=d.data.toList:=by rw[hd];rfl
 have hpre:Lib.hasPrefix s.data.toList [45]=true:=by rw[pre_one,hd];rfl
 have htrim:Lib.trimPrefix s.data.toList [45]=d.data.toList:=by rw[trim_one 45 _ (by rw[hd];rfl),hd];rfl
 have hds : d.size ≤ 1000000 := by have:s.data.toList.length=d.data.toList.length+1:=by rw[hd];rfl
                                   have h1:s.data.toList.length=s.size:=rfl
                                   have h2:d.data.toList.length=d.size:=rfl
                                   omega
 have hnr:nrQ s.data.toList=if d.data.toList.head?=some 48 then none else intD 1 d.data.toList (runD d.data.toList):=by rw[nrQ_on hm,hdr];rfl
 clear hm hdr
 rw[hpre,htrim,ba_list] at HC
 have HQ:=hid (fun w=>Tryz.strings_HasPrefix d ⟨#[48]⟩ w)
 rw[show (⟨#[48]⟩:ByteArray).data.toList=[48] from rfl,pre_one] at HQ
 clear hpre htrim h48
 by_cases g48:d.data.toList.head?=some 48
 ·rw [decide_eq_true g48] at HQ
  rw[if_pos g48] at hnr
  have HN:=hid hnr
  clear hnr g48 hd
  go_enter Tryz.func83,Tryz.ntmps83
  have tk:=trivial
  go_wp2_with (first
    | (go_at_call 99;clear tk;with_reducible refine (HP.out _).mono ?_;rintro e w' ⟨rfl,rfl⟩)
    | (go_at_call 35;refine (HC.out _).mono ?_;rintro e w' ⟨rfl,rfl⟩)
    | (go_at_call 99;with_reducible refine (HQ.out _).mono ?_;rintro e w' ⟨rfl,rfl⟩))
  go_ret3
  exact InEnd.no HN.out (Below.refl _ _)
 rw[decide_eq_false g48] at HQ
 rw[if_neg g48] at hnr
 have HNR:=hid hnr
 have G48:=hid g48
 clear hnr g48 hd
 go_enter Tryz.func83,Tryz.ntmps83
 have tk:=trivial
 go_wp2_with (first
   | (go_at_call 99;clear tk;with_reducible refine (HP.out _).mono ?_;rintro e w' ⟨rfl,rfl⟩)
   | (go_at_call 35;refine (HC.out _).mono ?_;rintro e w' ⟨rfl,rfl⟩)
   | (go_at_call 99;with_reducible refine (HQ.out _).mono ?_;rintro e w' ⟨rfl,rfl⟩))
 go_loopw [2,3] (fun vv vi wr=>RelIq d w' vv vi wr) (fun _ vi _=>d.size-(intOf vi).toNat)
 case atStart=>exact ⟨0,Nat.zero_le _,rfl,rfl,by simp,by simp[valD],rfl⟩
 case round =>
   obtain ⟨k,hk,rfl,rfl,hr,hv,rfl⟩:=hrel
   by_cases hlt:k<d.size
   ·have hltI:(k:Int)<d.size:=by omega
    have HD:=hid (fun w=>digit_any d[k].toNat w)
    rw[digB_is] at HD
    rw[runD_dropq d k hlt] at hr
    have hst:=valD_takeq d k hlt
    cases hdg:digB d[k]
    ·rw [hdg] at HD hr
     have hr:k=runD d.data.toList:=hr
     by_cases k0:k=0
     ·subst k0
      have HN:=hid (show nrQ s.data.toList=none by rw[HNR.out,← hr];unfold intD;exact if_pos (.inl rfl))
      clear hr hv hst
      go_wp2_with (go_at_call 65;refine (HD.out _).mono ?_;rintro e w' ⟨rfl,rfl⟩)
      go_ret3
      exact InEnd.no HN.out (Below.refl _ _)
     have k0I:((k:Int)==0)=false:=beq_eq_false_iff_ne.2 (by omega)
     have hfit:=int_fits (m:=1) G48.out (by omega) (by rw[← hr];omega)
     rw[← hr] at hfit
     have HN:=hid (show nrQ s.data.toList=_ from (HNR.out.trans (by rw[← hr])).trans hfit)
     generalize valD (d.data.toList.take k) 0=v at *
     have v0:(0:Int)≤v:=by omega
     have v1:(v:Int)≤9007199254740991:=by omega
     clear hr hv hst hfit
     go_wp2_with (go_at_call 65;refine (HD.out _).mono ?_;rintro e w' ⟨rfl,rfl⟩)
     go_ret3
     exact InEnd.yes HN.out (by simp) (by omega) (Below.refl _ _)
    ·rw [hdg] at HD hr
     have hk1:k+1≤runD d.data.toList:=by have:k+(runD (d.data.toList.drop (k+1))+1)=runD d.data.toList:=hr;omega
     have hcd:=of_decide_eq_true (show decide (48≤d[k].toNat∧d[k].toNat≤57)=true from hdg)
     have hv2:valD (d.data.toList.take (k+1)) 0≤90071992547409920:=by rw[hst];omega
     have hr2:k+1+runD (d.data.toList.drop (k+1))=runD d.data.toList:=by have:k+(runD (d.data.toList.drop (k+1))+1)=runD d.data.toList:=hr;omega
     have hkI:(k:Int)≤1000000:=by omega
     have u1:(48:Int)≤d[k].toNat∧(d[k].toNat:Int)≤57:=by omega
     have u2:(0:Int)≤(valD (d.data.toList.take k) 0:Nat)∧((valD (d.data.toList.take k) 0:Nat):Int)≤9007199254740991:=by omega
     have hsum:(10:Int)*(valD (d.data.toList.take k) 0:Nat)+((d[k].toNat:Int)-48)=(valD (d.data.toList.take (k+1)) 0:Nat):=by rw[hst];omega
     by_cases hov:9007199254740991<valD (d.data.toList.take (k+1)) 0
     ·have HN:=hid (show nrQ s.data.toList=none from HNR.out.trans (int_over hk1 hov))
      generalize valD (d.data.toList.take (k+1)) 0=v2 at *
      generalize valD (d.data.toList.take k) 0=v at *
      have ovI:(v2:Int)>9007199254740991:=by omega
      clear hr hst hr2 hdg
      go_wp2_with (go_at_call 65;refine (HD.out _).mono ?_;rintro e w' ⟨rfl,rfl⟩)
      go_ret3
      exact InEnd.no HN.out (Below.refl _ _)
     ·have HR2:=hid hr2
      have HV2:=hid (show valD (d.data.toList.take (k+1)) 0≤9007199254740991 by omega)
      generalize hg2:valD (d.data.toList.take (k+1)) 0=v2 at *
      have HG2:=hid hg2
      generalize valD (d.data.toList.take k) 0=v at *
      have ovI:¬ (v2:Int)>9007199254740991:=by omega
      clear hr hst hr2 hdg hg2
      go_wp2_with (go_at_call 65;refine (HD.out _).mono ?_;rintro e w' ⟨rfl,rfl⟩)
      go_roundw
      case rel=>exact ⟨k+1,hlt,by go_num,by rw[HG2.out],HR2.out,by rw[HG2.out];exact HV2.out,rfl⟩
      case measure=>simp[intOf];omega
   ·have hltI:¬ (k:Int)<d.size:=by omega
    rw[List.drop_of_length_le (by show d.size≤k;omega)] at hr
    have hr:k=runD d.data.toList:=hr
    by_cases k0:k=0
    ·subst k0
     have HN:=hid (show nrQ s.data.toList=none by rw[HNR.out,← hr];unfold intD;exact if_pos (.inl rfl))
     clear hr hv
     go_wp2
     go_ret3
     exact InEnd.no HN.out (Below.refl _ _)
    have k0I:((k:Int)==0)=false:=beq_eq_false_iff_ne.2 (by omega)
    have hfit:=int_fits (m:=1) G48.out (by omega) (by rw[← hr];omega)
    rw[← hr] at hfit
    have HN:=hid (show nrQ s.data.toList=_ from (HNR.out.trans (by rw[← hr])).trans hfit)
    generalize valD (d.data.toList.take k) 0=v at *
    have v0:(0:Int)≤v:=by omega
    have v1:(v:Int)≤9007199254740991:=by omega
    clear hr hv hfit
    go_wp2
    go_ret3
    exact InEnd.yes HN.out (by simp) (by omega) (Below.refl _ _)
theorem intq_above (s d:ByteArray) (W:World) (hs:s.size≤1000000) (h48:s.data.toList.head?≠some 48) (hd:s=d∧d.data.toList.head?≠some 45) :
   Calls Tryz.prog 83 #[.string s] W (InEnd s.data.toList W):=by
 have HP:=hid (fun w=>Tryz.strings_HasPrefix s ⟨#[48]⟩ w)
 rw[show (⟨#[48]⟩:ByteArray).data.toList=[48] from rfl,pre_one,decide_eq_false h48] at HP
 have HC:=hid (fun w=>Tryz.strings_CutPrefix s ⟨#[45]⟩ w)
 rw[show (⟨#[45]⟩:ByteArray).data.toList=[45] from rfl] at HC
 obtain ⟨rfl,h45⟩:=hd
 have hm:minB s.data.toList=0:=by unfold minB;exact if_neg h45
 have hpre:Lib.hasPrefix s.data.toList [45]=false:=by rw[pre_one];exact decide_eq_false h45
 have htrim:Lib.trimPrefix s.data.toList [45]=s.data.toList:=by unfold Lib.trimPrefix;rw[hpre];rfl
 have hds:s.size≤1000000:=hs
 have hnr:nrQ s.data.toList=intD 0 s.data.toList (runD s.data.toList):=by rw[nrQ_on hm,List.drop_zero,if_neg h48]
 have G48:=hid h48
 clear hm
 rw[hpre,htrim,ba_list] at HC
 clear hpre htrim h48 h45
 have HNR:=hid hnr
 clear hnr
 go_enter Tryz.func83,Tryz.ntmps83
 have tk:=trivial
 go_wp2_with (first
   | (go_at_call 99;clear tk;with_reducible refine (HP.out _).mono ?_;rintro e w' ⟨rfl,rfl⟩)
   | (go_at_call 35;refine (HC.out _).mono ?_;rintro e w' ⟨rfl,rfl⟩)
   | (go_at_call 99;with_reducible refine (HP.out _).mono ?_;rintro e w' ⟨rfl,rfl⟩))
 go_loopw [2,3] (fun vv vi wr=>RelIq s w' vv vi wr) (fun _ vi _=>s.size-(intOf vi).toNat)
 case atStart=>exact ⟨0,Nat.zero_le _,rfl,rfl,by simp,by simp[valD],rfl⟩
 case round =>
   obtain ⟨k,hk,rfl,rfl,hr,hv,rfl⟩:=hrel
   by_cases hlt:k<s.size
   ·have hltI:(k:Int)<s.size:=by omega
    have HD:=hid (fun w=>digit_any s[k].toNat w)
    rw[digB_is] at HD
    rw[runD_dropq s k hlt] at hr
    have hst:=valD_takeq s k hlt
    cases hdg:digB s[k]
    ·rw [hdg] at HD hr
     have hr:k=runD s.data.toList:=hr
     by_cases k0:k=0
     ·subst k0
      have HN:=hid (show nrQ s.data.toList=none by rw[HNR.out,← hr];unfold intD;exact if_pos (.inl rfl))
      clear hr hv hst
      go_wp2_with (go_at_call 65;refine (HD.out _).mono ?_;rintro e w' ⟨rfl,rfl⟩)
      go_ret3
      exact InEnd.no HN.out (Below.refl _ _)
     have k0I:((k:Int)==0)=false:=beq_eq_false_iff_ne.2 (by omega)
     have hfit:=int_fits (m:=0) G48.out (by omega) (by rw[← hr];omega)
     rw[← hr] at hfit
     have HN:=hid (show nrQ s.data.toList=_ from (HNR.out.trans (by rw[← hr])).trans hfit)
     generalize valD (s.data.toList.take k) 0=v at *
     have v0:(0:Int)≤v:=by omega
     have v1:(v:Int)≤9007199254740991:=by omega
     clear hr hv hst hfit
     go_wp2_with (go_at_call 65;refine (HD.out _).mono ?_;rintro e w' ⟨rfl,rfl⟩)
     go_ret3
     exact InEnd.yes HN.out (by simp) (by omega) (Below.refl _ _)
    ·rw [hdg] at HD hr
     have hk1:k+1≤runD s.data.toList:=by have:k+(runD (s.data.toList.drop (k+1))+1)=runD s.data.toList:=hr;omega
     have hcd:=of_decide_eq_true (show decide (48≤s[k].toNat∧s[k].toNat≤57)=true from hdg)
     have hv2:valD (s.data.toList.take (k+1)) 0≤90071992547409920:=by rw[hst];omega
     have hr2:k+1+runD (s.data.toList.drop (k+1))=runD s.data.toList:=by have:k+(runD (s.data.toList.drop (k+1))+1)=runD s.data.toList:=hr;omega
     have hkI:(k:Int)≤1000000:=by omega
     have u1:(48:Int)≤s[k].toNat∧(s[k].toNat:Int)≤57:=by omega
     have u2:(0:Int)≤(valD (s.data.toList.take k) 0:Nat)∧((valD (s.data.toList.take k) 0:Nat):Int)≤9007199254740991:=by omega
     have hsum:(10:Int)*(valD (s.data.toList.take k) 0:Nat)+((s[k].toNat:Int)-48)=(valD (s.data.toList.take (k+1)) 0:Nat):=by rw[hst];omega
     by_cases hov:9007199254740991<valD (s.data.toList.take (k+1)) 0
     ·have HN:=hid (show nrQ s.data.toList=none from HNR.out.trans (int_over hk1 hov))
      generalize valD (s.data.toList.take (k+1)) 0=v2 at *
      generalize valD (s.data.toList.take k) 0=v at *
      have ovI:(v2:Int)>9007199254740991:=by omega
      clear hr hst hr2 hdg
      go_wp2_with (go_at_call 65;refine (HD.out _).mono ?_;rintro e w' ⟨rfl,rfl⟩)
      go_ret3
      exact InEnd.no HN.out (Below.refl _ _)
     ·have HR2:=hid hr2
      have HV2:=hid (show valD (s.data.toList.take (k+1)) 0≤9007199254740991 by omega)
      generalize hg2:valD (s.data.toList.take (k+1)) 0=v2 at *
      have HG2:=hid hg2
      generalize valD (s.data.toList.take k) 0=v at *
      have ovI:¬ (v2:Int)>9007199254740991:=by omega
      clear hr hst hr2 hdg hg2
      go_wp2_with (go_at_call 65;refine (HD.out _).mono ?_;rintro e w' ⟨rfl,rfl⟩)
      go_roundw
      case rel=>exact ⟨k+1,hlt,by go_num,by rw[HG2.out],HR2.out,by rw[HG2.out];exact HV2.out,rfl⟩
      case measure=>simp[intOf];omega
   ·have hltI:¬ (k:Int)<s.size:=by omega
    rw[List.drop_of_length_le (by show s.size≤k;omega)] at hr
    have hr:k=runD s.data.toList:=hr
    by_cases k0:k=0
    ·subst k0
     have HN:=hid (show nrQ s.data.toList=none by rw[HNR.out,← hr];unfold intD;exact if_pos (.inl rfl))
     clear hr hv
     go_wp2
     go_ret3
     exact InEnd.no HN.out (Below.refl _ _)
    have k0I:((k:Int)==0)=false:=beq_eq_false_iff_ne.2 (by omega)
    have hfit:=int_fits (m:=0) G48.out (by omega) (by rw[← hr];omega)
    rw[← hr] at hfit
    have HN:=hid (show nrQ s.data.toList=_ from (HNR.out.trans (by rw[← hr])).trans hfit)
    generalize valD (s.data.toList.take k) 0=v at *
    have v0:(0:Int)≤v:=by omega
    have v1:(v:Int)≤9007199254740991:=by omega
    clear hr hv hfit
    go_wp2
    go_ret3
    exact InEnd.yes HN.out (by simp) (by omega) (Below.refl _ _)
theorem intq_any (s:ByteArray) (W:World) (hs:s.size≤1000000) :
   Calls Tryz.prog 83 #[.string s] W (InEnd s.data.toList W):=by
 by_cases h48:s.data.toList.head?=some 48
 ·exact intq_zero s W h48
 by_cases h45:s.data.toList.head?=some 45
 ·refine intq_below s ⟨s.data.toList.tail.toArray⟩ W hs h48 ?_
  cases hc:s.data.toList with
  | nil=>rw[hc] at h45;cases h45
  | cons a t=>rw[hc] at h45;rw[Option.some.inj h45];rfl
 ·exact intq_above s s W hs h48 ⟨rfl,h45⟩
end
section
open Go.RowKit
theorem nrq_in {l:List UInt8} {v:Int} {n:Nat} (h:nrQ l=some (v,n)):n≤l.length:=by
 have hm:=minB_le l
 unfold nrQ at h
 have hl:=runD_le (l.drop (minB l))
 rw[List.length_drop] at hl
 split at h
 ·rename_i h48
  split at h
  ·cases h
  ·injection h with h
   injection h with h1 h2
   cases l with
   | nil=>simp at h48
   | cons a t=>simp;omega
 ·have:=intD_in (v:=0) h
  omega
theorem Went.new {w w':World}{b:Nat}{l:List UInt8}(h:RdR w b l)(hb:Below w.heap.size w w'):Went w b l w':=⟨Own.stay h hb h.inside,Turned.of_below hb rfl⟩
theorem integer_any (b:Nat) (l:List UInt8) (W:World) (h:RdR W b l) (hl:l.length≤1000000) :
   Calls Tryz.prog 68 #[.pointer (some ⟨b,0,none⟩)] W fun e w'=>e=.returned (.tuple #[.int .i64 ((intA l).1.getD 0),.bool (intA l).1.isSome])∧Went W b (intA l).2 w':=by
 obtain ⟨s,rfl⟩:∃ s:ByteArray,l=s.data.toList:=⟨⟨l.toArray⟩,rfl⟩
 have hs:s.size≤1000000:=hl
 have c0:=h.at0
 rw[ba_list] at c0
 have HI:=hid (intq_any s W hs)
 have HW:=hid h
 cases hn:nrQ s.data.toList with
 | none =>
   unfold InEnd at HI
   rw[hn] at HI
   rw[intA_no hn]
   clear h hn hl
   have k0:(0:Int)≤s.size:=by omega
   go_enter Tryz.func68,Tryz.ntmps68
   go_wp2_with (go_at_call 83;refine HI.out.mono ?_;rintro e w1 ⟨rfl,hb⟩;have hw:=Went.new HW.out hb;have c1:=hw.1.at0;rw[ba_list] at c1;have f1:=hw.1.free0;have HP:=hid (hw.trans (RdR.put0 (m:=s.data.toList) hw.1));clear hb hw)
   go_ret2
   have:=HP.out
   rw[ba_list] at this
   exact ⟨rfl,this⟩
 | some p =>
   obtain ⟨v,n⟩:=p
   unfold InEnd at HI
   rw[hn] at HI
   rw[intA_yes hn]
   have hle:n≤s.size:=nrq_in hn
   have k0:(n:Int)≤s.size:=by omega
   have HT:=hid (ext_tail s n hle)
   clear h hn hl
   go_enter Tryz.func68,Tryz.ntmps68
   go_wp2_with (go_at_call 83;refine HI.out.mono ?_;rintro e w1 ⟨rfl,hb⟩;have hw:=Went.new HW.out hb;have c1:=hw.1.at0;rw[ba_list] at c1;have f1:=hw.1.free0;have HP:=hid (hw.trans (RdR.put0 (m:=s.data.toList.drop n) hw.1));clear hb hw)
   go_ret2
   exact ⟨rfl,by rw[HT.out];exact HP.out⟩
def NmEnd (o:Option (List UInt8×List UInt8)) (b:Nat) (W:World) (e:Ending) (w':World):Prop :=
 ∃ (nm:ByteArray) (ok:Bool) (r:List UInt8),e=.returned (.tuple #[.string nm,.bool ok])∧Went W b r w'∧match o with
   | none=>ok=false
   | some (u,r')=>ok=true∧nm=⟨u.toArray⟩∧r=r'
theorem double_any (b:Nat) (l:List UInt8) (W:World) (h:RdR W b l) (hl:l.length≤1000000) :
   Calls Tryz.prog 67 #[.pointer (some ⟨b,0,none⟩)] W (NmEnd (dblR l) b W):=by
 obtain ⟨s,rfl⟩:∃ s:ByteArray,l=s.data.toList:=⟨⟨l.toArray⟩,rfl⟩
 have hs:s.size≤1000000:=hl
 have c0:=h.at0
 rw[ba_list] at c0
 have HI:=hid (read_any s W (by omega))
 have HW:=hid h
 have hcase:∃ (t:List UInt8) (n:Nat) (j:Int) (ok:Bool),readR .plain s.data.toList [] 0=(t,n,j)∧n≤s.size∧(j==1)=ok∧match dblR s.data.toList with
   | none=>ok=false
   | some (u,r')=>ok=true∧(⟨t.toArray⟩:ByteArray)=⟨u.toArray⟩∧s.data.toList.drop n=r':=by
   unfold dblR
   rcases readR_cases s.data.toList .plain [] 0 with ⟨u,m,h1,h2⟩|⟨h1,m,j,h2,h3,h4⟩
   ·rw[h1]
    have:=read_least _ _ _ _ _ _ h1
    exact ⟨u,m,1,true,h2,by have:m≤0+s.data.toList.length:=this.2;have e:s.data.toList.length=s.size:=rfl;omega,rfl,rfl,rfl,rfl⟩
   ·rw[h1]
    exact ⟨[],m,j,false,h2,by have e:s.data.toList.length=s.size:=rfl;omega,beq_eq_false_iff_ne.2 h3,rfl⟩
 obtain ⟨t,n,j,ok,hr,hle,hj,hm⟩:=hcase
 rw[hr] at HI
 have k0:(n:Int)≤s.size:=by omega
 have HT:=hid (ext_tail s n hle)
 have HM:=hid hm
 clear h hl hr hm
 go_enter Tryz.func67,Tryz.ntmps67
 go_wp2_with (go_at_call 82;refine HI.out.mono ?_;rintro e w1 ⟨rfl,hb⟩;have hw:=Went.new HW.out hb;have c1:=hw.1.at0;rw[ba_list] at c1;have f1:=hw.1.free0;have HP:=hid (hw.trans (RdR.put0 (m:=s.data.toList.drop n) hw.1));clear hb hw)
 go_ret2
 exact ⟨_,_,_,rfl,by rw[HT.out];exact HP.out,HM.out⟩
end
end Go.Proofs.YtmgdjlkndbejkaaGreatDoor
