/- Lemmas. -/
import Derived.Test.YtnokhgfifbkflaaGreatProg
import Derived.Test.YtnokhgfifbkflaaGreatJ13
import Derived.Test.YtnokhgfifbkflaaGreatJ18
import Derived.Test.YtnokhgfifbkflaaGreatJ26
set_option maxRecDepth 100000
set_option maxHeartbeats 8000000
set_option linter.unusedVariables false
set_option linter.unusedSimpArgs false
namespace Go.Proofs.YtnokhgfifbkflaaGreat
open Go.Lib (hid)
section
open Go.RowKit
def RdR (w:World)(b:Nat)(l:List UInt8):Prop:=Own w b 80 #[.string ⟨l.toArray⟩]
def Went (w:World)(b:Nat)(l:List UInt8)(w':World):Prop:=RdR w' b l∧Turned b w w'
theorem RdR.at0 {w:World}{b:Nat}{l:List UInt8}(h:RdR w b l):w.cell? ⟨b,0,none⟩=some (.string ⟨l.toArray⟩):=Own.at h 0
theorem RdR.free0 {w:World}{b:Nat}{l:List UInt8}(h:RdR w b l):w.frozen? ⟨b,0,none⟩=false:=Own.free h 0
theorem RdR.put0 {w:World}{b:Nat}{l m:List UInt8}(h:RdR w b l):Went w b m (w.setCell ⟨b,0,none⟩ (.string ⟨m.toArray⟩)):=⟨by unfold RdR;simpa using Own.put h 0 (.string ⟨m.toArray⟩),(Turned.refl b w).put 0 _⟩
theorem Went.trans {u v w:World}{b:Nat}{l m:List UInt8}(h:Went u b l v)(g:Went v b m w):Went u b m w:=⟨g.1,h.2.trans g.2⟩
theorem RdR.same {w:World}{b:Nat}{l:List UInt8}(h:RdR w b l):Went w b l w:=⟨h,Turned.refl b w⟩
theorem Own.turned {w w':World}{b c:Nat}{t:TypeId}{cs:Array Value}(h:Own w c t cs)(ht:Turned b w w')(hc:c≠b):Own w' c t cs:=(ht.2.2.2.2 c h.inside hc).trans h
theorem list_ba (l:List UInt8):(⟨l.toArray⟩:ByteArray).data.toList=l:=rfl
theorem take_any (b:Nat) (p:ByteArray) (l:List UInt8) (w:World) (h:RdR w b l) :
   Calls Tryz.prog 34 #[.pointer (some ⟨b,0,none⟩),.string p] w fun e w'=>e=.returned (.bool (Lib.hasPrefix l p.data.toList))∧Went w b (Lib.trimPrefix l p.data.toList) w':=by
 have HC:=hid (fun w=>Tryz.strings_CutPrefix ⟨l.toArray⟩ p w)
 rw[list_ba] at HC
 have HP:=hid (h.put0 (m:=Lib.trimPrefix l p.data.toList))
 have c0:=h.at0
 have f0:=h.free0
 generalize Lib.trimPrefix l p.data.toList=tr at *
 generalize Lib.hasPrefix l p.data.toList=ok at *
 clear h
 go_enter Tryz.func34,Tryz.ntmps34
 go_wp2_with (go_at_call 53;refine (HC.out _).mono ?_;rintro e w' ⟨rfl,rfl⟩)
 go_ret
 exact ⟨rfl,HP.out⟩
theorem pre_one (c:UInt8) (l:List UInt8):Lib.hasPrefix l [c]=decide (l.head?=some c):=by
 cases l with
 | nil=>rfl
 | cons a t =>
   unfold Lib.hasPrefix
   by_cases hc:c=a
   ·simp[List.isPrefixOf,hc]
   ·simp only [List.isPrefixOf,List.head?_cons,Option.some.injEq,Bool.and_true]
    rw[beq_eq_false_iff_ne.2 hc,decide_eq_false (fun e=>hc e.symm)]
theorem trim_one (c:UInt8) (l:List UInt8) (h:l.head?=some c):Lib.trimPrefix l [c]=l.tail:=by
 unfold Lib.trimPrefix
 rw[pre_one,if_pos (decide_eq_true h)]
 simp
theorem take_yes (b:Nat) (c:UInt8) (t:List UInt8) (w:World) (h:RdR w b (c :: t)) :
   Calls Tryz.prog 34 #[.pointer (some ⟨b,0,none⟩),.string ⟨#[c]⟩] w fun e w'=>e=.returned (.bool true)∧Went w b t w':=by
 have:=take_any b ⟨#[c]⟩ _ w h
 rw[show (⟨#[c]⟩:ByteArray).data.toList=[c] from rfl,pre_one,trim_one c _ rfl,decide_eq_true (show (c :: t).head?=some c from rfl)] at this
 exact this
theorem take_no (b:Nat) (c:UInt8) (l:List UInt8) (w:World) (h:RdR w b l) (hc:l.head?≠some c) :
   Calls Tryz.prog 34 #[.pointer (some ⟨b,0,none⟩),.string ⟨#[c]⟩] w fun e w'=>e=.returned (.bool false)∧Went w b l w':=by
 have:=take_any b ⟨#[c]⟩ _ w h
 have hp:Lib.hasPrefix l [c]=false:=by rw[pre_one];exact decide_eq_false hc
 have ht:Lib.trimPrefix l [c]=l:=by unfold Lib.trimPrefix;rw[hp];rfl
 rw[show (⟨#[c]⟩:ByteArray).data.toList=[c] from rfl,hp,ht] at this
 exact this
theorem pre_two (c d:UInt8) (l:List UInt8):Lib.hasPrefix l [c,d]=decide (l.take 2=[c,d]):=by
 unfold Lib.hasPrefix
 cases l with
 | nil=>rfl
 | cons a t =>
   cases t with
   | nil=>simp[List.isPrefixOf]
   | cons e t =>
     show (c==a&&(d==e&&List.isPrefixOf [] t))=decide ([a,e]=[c,d])
     by_cases h:a=c∧e=d
     ·obtain ⟨rfl,rfl⟩:=h
      simp[List.isPrefixOf]
     ·rw[decide_eq_false (fun x=>by injection x with x1 x2;injection x2 with x2 _;exact h ⟨x1,x2⟩)]
      simp only [Bool.and_eq_false_iff,beq_eq_false_iff_ne]
      by_cases h1:c=a
      ·exact .inr (.inl fun h2=>h ⟨h1.symm,h2.symm⟩)
      ·exact .inl h1
theorem take_two_yes (b:Nat) (c d:UInt8) (t:List UInt8) (w:World) (h:RdR w b (c :: d :: t)) :
   Calls Tryz.prog 34 #[.pointer (some ⟨b,0,none⟩),.string ⟨#[c,d]⟩] w fun e w'=>e=.returned (.bool true)∧Went w b t w':=by
 have:=take_any b ⟨#[c,d]⟩ _ w h
 have hp:Lib.hasPrefix (c :: d :: t) [c,d]=true:=by rw[pre_two];exact decide_eq_true rfl
 have ht:Lib.trimPrefix (c :: d :: t) [c,d]=t:=by unfold Lib.trimPrefix;rw[hp];rfl
 rw[show (⟨#[c,d]⟩:ByteArray).data.toList=[c,d] from rfl,hp,ht] at this
 exact this
theorem take_two_no (b:Nat) (c d:UInt8) (l:List UInt8) (w:World) (h:RdR w b l) (hc:l.take 2≠[c,d]) :
   Calls Tryz.prog 34 #[.pointer (some ⟨b,0,none⟩),.string ⟨#[c,d]⟩] w fun e w'=>e=.returned (.bool false)∧Went w b l w':=by
 have:=take_any b ⟨#[c,d]⟩ _ w h
 have hp:Lib.hasPrefix l [c,d]=false:=by rw[pre_two];exact decide_eq_false hc
 have ht:Lib.trimPrefix l [c,d]=l:=by unfold Lib.trimPrefix;rw[hp];rfl
 rw[show (⟨#[c,d]⟩:ByteArray).data.toList=[c,d] from rfl,hp,ht] at this
 exact this
end
section
open Go.RowKit
theorem kindI_blk (c:UInt8):(kindI c.toNat==1)=blkB c:=by
 have h:∀ n:Fin 256,(kindI (UInt8.ofNat n).toNat==1)=blkB (UInt8.ofNat n):=by decide +kernel
 have:=h ⟨c.toNat,c.toNat_lt⟩
 simp only [UInt8.ofNat_toNat] at this
 exact this
theorem isEmpty_no (s:ByteArray) (h:s.size≠0):s.toList.isEmpty=false:=by
 rw[Lib.toList_data s]
 cases hc:s.data.toList with
 | nil=>exact absurd (show s.size=0 from congrArg List.length hc) h
 | cons a b=>rfl
def muR (b:Nat) (w:World):Nat:=match w.cell? ⟨b,0,none⟩ with
 | some (.string s)=>s.size
 | _=>0
theorem muR_is {w:World} {b:Nat} {l:List UInt8} (h:RdR w b l):muR b w=l.length:=by
 unfold muR
 rw[h.at0]
 rfl
def RelSk (b:Nat)(l:List UInt8)(W wr:World):Prop:=∃ r,Went W b r wr∧skB r=skB l∧r.length≤l.length
theorem skip_any (b:Nat) (l:List UInt8) (W:World) (h:RdR W b l) (hl:l.length≤1000000) :
   Calls Tryz.prog 54 #[.pointer (some ⟨b,0,none⟩)] W fun e w'=>e=.returned (.tuple #[])∧Went W b (skB l) w':=by
 have HR0:=hid (show RelSk b l W W from ⟨l,h.same,rfl,Nat.le_refl _⟩)
 clear h
 go_enter Tryz.func54,Tryz.ntmps54
 go_wp2
 go_loopw [2] (fun _ wr=>RelSk b l W wr) (fun _ wr=>muR b wr)
 case atStart=>exact HR0.out
 case round =>
   obtain ⟨r,hw,hs,hrl⟩:=hrel
   have c0:=hw.1.at0
   have f0:=hw.1.free0
   have HW:=hid hw
   cases r with
   | nil =>
     have HS:=hid hs
     clear hw hs
     go_wp2
     go_end0
     exact ⟨rfl,by rw[← HS.out];exact HW.out⟩
   | cons c t =>
     have HK:=hid (fun w=>kind_any c.toNat w)
     have hk:=kindI_blk c
     generalize kindI c.toNat=kd at *
     have hz:(⟨(c :: t).toArray⟩:ByteArray).size=t.length+1:=rfl
     have h0:(0:Int)<(⟨(c :: t).toArray⟩:ByteArray).size:=by rw[hz];omega
     have h00:0<(⟨(c :: t).toArray⟩:ByteArray).size:=by rw[hz];omega
     have h1:(1:Int)≤(⟨(c :: t).toArray⟩:ByteArray).size:=by rw[hz];omega
     have he:=isEmpty_no (⟨(c :: t).toArray⟩:ByteArray) (by rw[hz];omega)
     have hi:(⟨(c :: t).toArray⟩:ByteArray)[0]=c:=rfl
     have ht:(⟨(c :: t).toArray⟩:ByteArray).extract 1 (⟨(c :: t).toArray⟩:ByteArray).size=⟨t.toArray⟩:=by
       have:=tail13 (⟨(c :: t).toArray⟩:ByteArray) 1 (by rw[hz];omega)
       rw[← ba_list ((⟨(c :: t).toArray⟩:ByteArray).extract 1 _),this]
       rfl
     have hsz:(⟨(c :: t).toArray⟩:ByteArray).size≤1000000:=by rw[hz];simp at hrl;omega
     generalize (⟨(c :: t).toArray⟩:ByteArray)=s at *
     cases hb:blkB c with
     | false =>
       rw[hb] at hk
       have HS:=hid (show skB (c :: t)=skB l from hs)
       have hsk:skB (c :: t)=c :: t:=skB_id (if_neg (by rw[hb];decide))
       have HE:=hid (show Went W b (skB l) wr by rw[← hs,hsk];exact hw)
       clear hs hsk hw hz ht hb hrl
       go_wp2_with (go_at_call 82;refine (HK.out _).mono ?_;rintro e w' ⟨rfl,rfl⟩)
       go_end0
       exact ⟨rfl,HE.out⟩
     | true =>
       rw[hb] at hk
       have hsk:skB (c :: t)=skB t:=by unfold skB;rw[show runB (c :: t)=runB t+1 from if_pos hb];rfl
       have hgo:Went W b t (wr.setCell ⟨b,0,none⟩ (.string ⟨t.toArray⟩)):=hw.trans (RdR.put0 hw.1)
       have HE:=hid (show RelSk b l W (wr.setCell ⟨b,0,none⟩ (.string ⟨t.toArray⟩)) from ⟨t,hgo,by rw[← hs,hsk],by simp at hrl;omega⟩)
       have HM:=hid (show muR b (wr.setCell ⟨b,0,none⟩ (.string ⟨t.toArray⟩))<muR b wr by rw[muR_is hgo.1,muR_is hw.1];simp)
       have HT:=hid ht
       clear hs hsk hw hz ht hb hrl hgo
       go_wp2_with (go_at_call 82;refine (HK.out _).mono ?_;rintro e w' ⟨rfl,rfl⟩)
       go_roundw
       case rel=>rw[HT.out];exact HE.out
       case measure=>rw[HT.out];exact HM.out
end
section
open Go.RowKit
theorem firstB_isq (c:UInt8):firstB c=(isAlphaI c.toNat||(c.toNat:Int)==95||decide ((c.toNat:Int)≥128)):=by
 have h:∀ n:Fin 256,firstB (UInt8.ofNat n)=(isAlphaI ((UInt8.ofNat n).toNat)||((UInt8.ofNat n).toNat:Int)==95||decide (((UInt8.ofNat n).toNat:Int)≥128)):=by decide +kernel
 have:=h ⟨c.toNat,c.toNat_lt⟩
 simp only [UInt8.ofNat_toNat] at this
 exact this
theorem begins_q (c:UInt8) (w:World) :
   Calls Tryz.prog 108 #[.int .u8 c.toNat] w fun e w'=>e=.returned (.bool (firstB c))∧w=w':=by
 rw[firstB_isq]
 have HA:=hid (fun w=>alpha_any c.toNat w)
 cases ha:isAlphaI c.toNat
 ·rw [ha] at HA
  by_cases h95:(c.toNat:Int)=95
  ·rw[h95]
   have HA:=hid (show ∀ w,Calls Tryz.prog 124 #[.int .u8 95] w fun e w'=>e=.returned (.bool false)∧w=w' by rw[← h95];exact HA.out)
   clear ha h95
   go_enter Tryz.func108,Tryz.ntmps108
   go_wp2_with (go_at_call 124;refine (HA.out _).mono ?_;rintro e w' ⟨rfl,rfl⟩)
   go_ret
   exact ⟨rfl,rfl⟩
  ·have g95:((c.toNat:Int)==95)=false:=beq_eq_false_iff_ne.2 h95
   rw[g95]
   by_cases h128:(c.toNat:Int)≥128
   ·rw[decide_eq_true h128]
    clear ha h95
    go_enter Tryz.func108,Tryz.ntmps108
    go_wp2_with (go_at_call 124;refine (HA.out _).mono ?_;rintro e w' ⟨rfl,rfl⟩)
    go_ret
    exact ⟨rfl,rfl⟩
   ·rw[decide_eq_false h128]
    clear ha h95
    go_enter Tryz.func108,Tryz.ntmps108
    go_wp2_with (go_at_call 124;refine (HA.out _).mono ?_;rintro e w' ⟨rfl,rfl⟩)
    go_ret
    exact ⟨ret_b (show decide (128≤(c.toNat:Int))=false from decide_eq_false (by omega)),rfl⟩
 ·rw[ha] at HA
  clear ha
  go_enter Tryz.func108,Tryz.ntmps108
  go_wp2_with (go_at_call 124;refine (HA.out _).mono ?_;rintro e w' ⟨rfl,rfl⟩)
  go_ret
  exact ⟨rfl,rfl⟩
theorem pln_le:∀ (b:Bool) (l:List UInt8),plnN b l≤l.length
 | _,[]=>Nat.le_refl _
 | b,c :: t=>by
   have:=pln_le true t
   unfold plnN
   split
   ·simpa using this
   ·simp
theorem pln_drop (b:Bool) (s:ByteArray) (k:Nat) (h:k<s.size):plnN b (s.data.toList.drop k)=if firstB s[k]||(b&&digB s[k]) then plnN true (s.data.toList.drop (k+1))+1 else 0:=by
 have hx:k<s.data.toList.length:=h
 rw[List.drop_eq_getElem_cons hx]
 rfl
theorem ext_tail (s:ByteArray)(k:Nat)(hk:k≤s.size):s.extract k s.size=⟨(s.data.toList.drop k).toArray⟩:=by rw[← tail13 s k hk,ba_list]
theorem ext_head (s:ByteArray) (k:Nat) (hk:k≤s.size):s.extract 0 k=⟨(s.data.toList.take k).toArray⟩:=by
 have:(s.extract 0 k).data.toList=s.data.toList.take k:=by
   rw[ByteArray.data_extract,Array.toList_extract,List.extract_eq_take_drop]
   simp
 rw[← this,ba_list]
theorem retQ {a b:ByteArray}(h:a=b):Ending.returned (.string a)=.returned (.string b):=by rw[h]
def RelPn (b:Nat) (s:ByteArray) (W:World) (v:Value) (wr:World):Prop :=
 ∃ k:Nat,v=.int .i64 k∧k≤s.size∧k+plnN (decide (0<k)) (s.data.toList.drop k)=plnN false s.data.toList∧W=wr
theorem plain_any (b:Nat) (l:List UInt8) (W:World) (h:RdR W b l) (hl:l.length≤1000000) :
   Calls Tryz.prog 84 #[.pointer (some ⟨b,0,none⟩)] W fun e w'=>e=.returned (.string ⟨(l.take (plnN false l)).toArray⟩)∧Went W b (l.drop (plnN false l)) w':=by
 obtain ⟨s,rfl⟩:∃ s:ByteArray,l=s.data.toList:=⟨⟨l.toArray⟩,rfl⟩
 have hs:s.size≤1000000:=hl
 have c0:=h.at0
 have f0:=h.free0
 rw[ba_list] at c0
 have HPut:=hid (fun m=>h.put0 (m:=m))
 clear h hl
 go_enter Tryz.func84,Tryz.ntmps84
 go_wp2
 go_loopw [3] (fun v wr=>RelPn b s W v wr) (fun v _=>s.size-(intOf v).toNat)
 case atStart=>exact ⟨0,rfl,Nat.zero_le _,by simp,rfl⟩
 case round =>
   obtain ⟨k,rfl,hk,hr,rfl⟩:=hrel
   by_cases hlt:k<s.size
   ·have hltI:(k:Int)<s.size:=by omega
    have hkI:(k:Int)≤s.size:=by omega
    have HF:=hid (fun w=>begins_q s[k] w)
    have HD:=hid (fun w=>digit_any s[k].toNat w)
    rw[digB_is] at HD
    rw[pln_drop _ s k hlt] at hr
    have hp1:decide (0<k+1)=true:=decide_eq_true (by omega)
    cases hf:firstB s[k]
    ·rw [hf] at HF hr
     by_cases hk0:0<k
     ·rw [decide_eq_true hk0] at hr
      have hk0I:(k:Int)>0:=by omega
      cases hd:digB s[k]
      ·rw [hd] at HD hr
       have EQ:=hid (show k=plnN false s.data.toList from hr)
       have HE:=hid (ext_head s _ hk)
       have HT:=hid (ext_tail s _ hk)
       clear hd hf hr
       go_wp2_with (first
         | (go_at_call 108;refine (HF.out _).mono ?_;rintro e w' ⟨rfl,rfl⟩)
         | (go_at_call 103;refine (HD.out _).mono ?_;rintro e w' ⟨rfl,rfl⟩))
       go_ret
       exact ⟨retQ (a:=s.extract 0 k) (by rw[HE.out,← EQ.out]),by rw[HT.out,← EQ.out];exact HPut.out _⟩
      ·rw [hd] at HD hr
       have HR:=hid (show k+(plnN true (s.data.toList.drop (k+1))+1)=plnN false s.data.toList from hr)
       clear hr hd hf
       go_wp2_with (first
         | (go_at_call 108;refine (HF.out _).mono ?_;rintro e w' ⟨rfl,rfl⟩)
         | (go_at_call 103;refine (HD.out _).mono ?_;rintro e w' ⟨rfl,rfl⟩))
       go_roundw
       case rel=>exact ⟨k+1,by go_num,hlt,by rw[hp1];have:=HR.out;omega,rfl⟩
       case measure=>simp[intOf];omega
     ·rw[decide_eq_false hk0] at hr
      have hk0I:¬ (k:Int)>0:=by omega
      have EQ:=hid (show k=plnN false s.data.toList from hr)
      have HE:=hid (ext_head s _ hk)
      have HT:=hid (ext_tail s _ hk)
      clear hf hr
      go_wp2_with (go_at_call 108;refine (HF.out _).mono ?_;rintro e w' ⟨rfl,rfl⟩)
      go_ret
      exact ⟨retQ (a:=s.extract 0 k) (by rw[HE.out,← EQ.out]),by rw[HT.out,← EQ.out];exact HPut.out _⟩
    ·rw[hf] at HF hr
     have HR:=hid (show k+(plnN true (s.data.toList.drop (k+1))+1)=plnN false s.data.toList from hr)
     clear hr hf
     go_wp2_with (go_at_call 108;refine (HF.out _).mono ?_;rintro e w' ⟨rfl,rfl⟩)
     go_roundw
     case rel=>exact ⟨k+1,by go_num,hlt,by rw[hp1];have:=HR.out;omega,rfl⟩
     case measure=>simp[intOf];omega
   ·have hltI:¬ (k:Int)<s.size:=by omega
    have hkI:(k:Int)≤s.size:=by omega
    rw[List.drop_of_length_le (by show s.size≤k;omega)] at hr
    have EQ:=hid (show k=plnN false s.data.toList from hr)
    have HE:=hid (ext_head s _ hk)
    have HT:=hid (ext_tail s _ hk)
    clear hr
    go_wp2
    go_ret
    exact ⟨retQ (a:=s.extract 0 k) (by rw[HE.out,← EQ.out]),by rw[HT.out,← EQ.out];exact HPut.out _⟩
end
section
open Go.RowKit
theorem int_over {d:List UInt8} {k m:Nat} (hk:k≤runD d) (h:9007199254740991<valD (d.take k) 0):intD m d (runD d)=none:=by
 unfold intD
 split
 ·rfl
 ·rw [if_pos]
  have e:d.take (runD d)=d.take k++(d.take (runD d)).drop k:=by
    have:=(List.take_append_drop k (d.take (runD d))).symm
    rw[List.take_take,Nat.min_eq_left hk] at this
    exact this
  rw[e]
  unfold valD
  rw[List.foldl_append]
  exact Nat.lt_of_lt_of_le h (valD_mono _ _)
theorem valD_low:∀ (ds:List UInt8) (a:Nat),1≤a→10 ^ ds.length*a≤valD ds a
 | [],a,h=>by simp[valD]
 | c :: t,a,h=>by
   have:=valD_low t (a*10+(c.toNat-48)) (by omega)
   show 10 ^ (t.length+1)*a≤valD t (a*10+(c.toNat-48))
   refine Nat.le_trans ?_ this
   rw[Nat.pow_succ,Nat.mul_assoc]
   exact Nat.mul_le_mul_left _ (by omega)
theorem int_fits {d:List UInt8} {m:Nat} (h48:d.head?≠some 48) (h0:runD d≠0) (h:¬ 9007199254740991<valD (d.take (runD d)) 0):intD m d (runD d)=some (if m=1 then -((valD (d.take (runD d)) 0:Nat):Int) else ((valD (d.take (runD d)) 0:Nat):Int),m+runD d):=by
 have h16 : runD d≤16:=by
   rcases Nat.lt_or_ge 16 (runD d) with hlt|hge
   ·exfalso
    have hle:=runD_le d
    have hdig:=run_dig d
    have hlen:(d.take (runD d)).length=runD d:=by rw[List.length_take];omega
    cases hds:d.take (runD d) with
    | nil=>rw[hds] at hlen;simp at hlen;omega
    | cons c t =>
      rw[hds] at hlen hdig h
      have hc:=of_decide_eq_true (show digB c=true from hdig c (by simp))
      have hne:c≠48:=by
        intro e
        refine h48 ?_
        have:(d.take (runD d)).head?=some c:=by rw[hds];rfl
        rw[List.head?_take] at this
        split at this
        ·cases this
        ·rw[this,e]
      have hc2:c.toNat≠48:=fun e=>hne (UInt8.toNat_inj.1 e)
      have:=valD_low t (c.toNat-48) (by omega)
      have hp:(10:Nat) ^ 16≤10 ^ t.length:=Nat.pow_le_pow_right (by decide) (by simp at hlen;omega)
      have hv:valD (c :: t) 0=valD t (c.toNat-48):=by unfold valD;simp[List.foldl_cons]
      have h2:10 ^ t.length*1≤10 ^ t.length*(c.toNat-48):=Nat.mul_le_mul_left _ (by omega)
      omega
   ·exact hge
 unfold intD
 rw[if_neg (by omega),if_neg h]
theorem runD_dropq (s:ByteArray) (k:Nat) (h:k<s.size):runD (s.data.toList.drop k)=if digB s[k] then runD (s.data.toList.drop (k+1))+1 else 0:=by
 have hx:k<s.data.toList.length:=h
 rw[List.drop_eq_getElem_cons hx]
 rfl
theorem valD_takeq (s:ByteArray)(k:Nat)(h:k<s.size):valD (s.data.toList.take (k+1)) 0=valD (s.data.toList.take k) 0*10+(s[k].toNat-48):=valD_take s.data.toList k h
def RelIq (d:ByteArray) (W:World) (vv vi:Value) (wr:World):Prop :=
 ∃ k:Nat,k≤d.size∧vi=.int .i64 k∧vv=.int .i64 (valD (d.data.toList.take k) 0:Nat)∧k+runD (d.data.toList.drop k)=runD d.data.toList∧valD (d.data.toList.take k) 0≤9007199254740991∧W=wr
theorem intq_zero (s:ByteArray) (W:World) (h:s.data.toList.head?=some 48) :
   Calls Tryz.prog 123 #[.string s] W (InEnd s.data.toList W):=by
 have HP:=hid (fun w=>Tryz.strings_HasPrefix s ⟨#[48]⟩ w)
 rw[show (⟨#[48]⟩:ByteArray).data.toList=[48] from rfl,pre_one,decide_eq_true h] at HP
 have hm:minB s.data.toList=0:=by unfold minB;rw[h];rfl
 have HI:=hid (show nrQ s.data.toList=some (0,1) by rw[nrQ_on hm,List.drop_zero,if_pos h];rfl)
 clear h hm
 go_enter Tryz.func123,Tryz.ntmps123
 go_wp2_with (go_at_call 132;refine (HP.out _).mono ?_;rintro e w' ⟨rfl,rfl⟩)
 go_ret3
 exact InEnd.yes HI.out rfl rfl (Below.refl _ _)
theorem intq_below (s d : ByteArray) (W:World) (hs:s.size≤1000000) (h48:s.data.toList.head?≠some 48) (hd:s.data.toList=45 :: d.data.toList) :
   Calls Tryz.prog 123 #[.string s] W (InEnd s.data.toList W):=by
 have HP:=hid (fun w=>Tryz.strings_HasPrefix s ⟨#[48]⟩ w)
 rw[show (⟨#[48]⟩:ByteArray).data.toList=[48] from rfl,pre_one,decide_eq_false h48] at HP
 have HC:=hid (fun w=>Tryz.strings_CutPrefix s ⟨#[45]⟩ w)
 rw[show (⟨#[45]⟩:ByteArray).data.toList=[45] from rfl] at HC
 have hm:minB s.data.toList=1:=by unfold minB;rw[hd];rfl
 have hdr:s.data.toList.drop 1=d.data.toList:=by rw[hd];rfl
 have hpre:Lib.hasPrefix s.data.toList [45]=true:=by rw[pre_one,hd];rfl
 have htrim:Lib.trimPrefix s.data.toList [45]=d.data.toList:=by rw[trim_one 45 _ (by rw[hd];rfl),hd];rfl
 have hds : d.size ≤ 1000000 := by have:s.data.toList.length=d.data.toList.length+1:=by rw[hd];rfl
                                   have h1:s.data.toList.length=s.size:=rfl
                                   have h2:d.data.toList.length=d.size:=rfl
                                   omega
 have hnr:nrQ s.data.toList=if d.data.toList.head?=some 48 then none else intD 1 d.data.toList (runD d.data.toList):=by rw[nrQ_on hm,hdr];rfl
 clear hm hdr
 rw[hpre,htrim,ba_list] at HC
 have HQ:=hid (fun w=>Tryz.strings_HasPrefix d ⟨#[48]⟩ w)
 rw[show (⟨#[48]⟩:ByteArray).data.toList=[48] from rfl,pre_one] at HQ
 clear hpre htrim h48
 by_cases g48:d.data.toList.head?=some 48
 ·rw [decide_eq_true g48] at HQ
  rw[if_pos g48] at hnr
  have HN:=hid hnr
  clear hnr g48 hd
  go_enter Tryz.func123,Tryz.ntmps123
  have tk:=trivial
  go_wp2_with (first
    | (go_at_call 132;clear tk;with_reducible refine (HP.out _).mono ?_;rintro e w' ⟨rfl,rfl⟩)
    | (go_at_call 53;refine (HC.out _).mono ?_;rintro e w' ⟨rfl,rfl⟩)
    | (go_at_call 132;with_reducible refine (HQ.out _).mono ?_;rintro e w' ⟨rfl,rfl⟩))
  go_ret3
  exact InEnd.no HN.out (Below.refl _ _)
 rw[decide_eq_false g48] at HQ
 rw[if_neg g48] at hnr
 have HNR:=hid hnr
 have G48:=hid g48
 clear hnr g48 hd
 go_enter Tryz.func123,Tryz.ntmps123
 have tk:=trivial
 go_wp2_with (first
   | (go_at_call 132;clear tk;with_reducible refine (HP.out _).mono ?_;rintro e w' ⟨rfl,rfl⟩)
   | (go_at_call 53;refine (HC.out _).mono ?_;rintro e w' ⟨rfl,rfl⟩)
   | (go_at_call 132;with_reducible refine (HQ.out _).mono ?_;rintro e w' ⟨rfl,rfl⟩))
 go_loopw [2,3] (fun vv vi wr=>RelIq d w' vv vi wr) (fun _ vi _=>d.size-(intOf vi).toNat)
 case atStart=>exact ⟨0,Nat.zero_le _,rfl,rfl,by simp,by simp[valD],rfl⟩
 case round =>
   obtain ⟨k,hk,rfl,rfl,hr,hv,rfl⟩:=hrel
   by_cases hlt:k<d.size
   ·have hltI:(k:Int)<d.size:=by omega
    have HD:=hid (fun w=>digit_any d[k].toNat w)
    rw[digB_is] at HD
    rw[runD_dropq d k hlt] at hr
    have hst:=valD_takeq d k hlt
    cases hdg:digB d[k]
    ·rw [hdg] at HD hr
     have hr:k=runD d.data.toList:=hr
     by_cases k0:k=0
     ·subst k0
      have HN:=hid (show nrQ s.data.toList=none by rw[HNR.out,← hr];unfold intD;exact if_pos (.inl rfl))
      clear hr hv hst
      go_wp2_with (go_at_call 103;refine (HD.out _).mono ?_;rintro e w' ⟨rfl,rfl⟩)
      go_ret3
      exact InEnd.no HN.out (Below.refl _ _)
     have k0I:((k:Int)==0)=false:=beq_eq_false_iff_ne.2 (by omega)
     have hfit:=int_fits (m:=1) G48.out (by omega) (by rw[← hr];omega)
     rw[← hr] at hfit
     have HN:=hid (show nrQ s.data.toList=_ from (HNR.out.trans (by rw[← hr])).trans hfit)
     generalize valD (d.data.toList.take k) 0=v at *
     have v0:(0:Int)≤v:=by omega
     have v1:(v:Int)≤9007199254740991:=by omega
     clear hr hv hst hfit
     go_wp2_with (go_at_call 103;refine (HD.out _).mono ?_;rintro e w' ⟨rfl,rfl⟩)
     go_ret3
     exact InEnd.yes HN.out (by simp) (by omega) (Below.refl _ _)
    ·rw [hdg] at HD hr
     have hk1:k+1≤runD d.data.toList:=by have:k+(runD (d.data.toList.drop (k+1))+1)=runD d.data.toList:=hr;omega
     have hcd:=of_decide_eq_true (show decide (48≤d[k].toNat∧d[k].toNat≤57)=true from hdg)
     have hv2:valD (d.data.toList.take (k+1)) 0≤90071992547409920:=by rw[hst];omega
     have hr2:k+1+runD (d.data.toList.drop (k+1))=runD d.data.toList:=by have:k+(runD (d.data.toList.drop (k+1))+1)=runD d.data.toList:=hr;omega
     have hkI:(k:Int)≤1000000:=by omega
     have u1:(48:Int)≤d[k].toNat∧(d[k].toNat:Int)≤57:=by omega
     have u2:(0:Int)≤(valD (d.data.toList.take k) 0:Nat)∧((valD (d.data.toList.take k) 0:Nat):Int)≤9007199254740991:=by omega
     have hsum:(10:Int)*(valD (d.data.toList.take k) 0:Nat)+((d[k].toNat:Int)-48)=(valD (d.data.toList.take (k+1)) 0:Nat):=by rw[hst];omega
     by_cases hov:9007199254740991<valD (d.data.toList.take (k+1)) 0
     ·have HN:=hid (show nrQ s.data.toList=none from HNR.out.trans (int_over hk1 hov))
      generalize valD (d.data.toList.take (k+1)) 0=v2 at *
      generalize valD (d.data.toList.take k) 0=v at *
      have ovI:(v2:Int)>9007199254740991:=by omega
      clear hr hst hr2 hdg
      go_wp2_with (go_at_call 103;refine (HD.out _).mono ?_;rintro e w' ⟨rfl,rfl⟩)
      go_ret3
      exact InEnd.no HN.out (Below.refl _ _)
     ·have HR2:=hid hr2
      have HV2:=hid (show valD (d.data.toList.take (k+1)) 0≤9007199254740991 by omega)
      generalize hg2:valD (d.data.toList.take (k+1)) 0=v2 at *
      have HG2:=hid hg2
      generalize valD (d.data.toList.take k) 0=v at *
      have ovI:¬ (v2:Int)>9007199254740991:=by omega
      clear hr hst hr2 hdg hg2
      go_wp2_with (go_at_call 103;refine (HD.out _).mono ?_;rintro e w' ⟨rfl,rfl⟩)
      go_roundw
      case rel=>exact ⟨k+1,hlt,by go_num,by rw[HG2.out],HR2.out,by rw[HG2.out];exact HV2.out,rfl⟩
      case measure=>simp[intOf];omega
   ·have hltI:¬ (k:Int)<d.size:=by omega
    rw[List.drop_of_length_le (by show d.size≤k;omega)] at hr
    have hr:k=runD d.data.toList:=hr
    by_cases k0:k=0
    ·subst k0
     have HN:=hid (show nrQ s.data.toList=none by rw[HNR.out,← hr];unfold intD;exact if_pos (.inl rfl))
     clear hr hv
     go_wp2
     go_ret3
     exact InEnd.no HN.out (Below.refl _ _)
    have k0I:((k:Int)==0)=false:=beq_eq_false_iff_ne.2 (by omega)
    have hfit:=int_fits (m:=1) G48.out (by omega) (by rw[← hr];omega)
    rw[← hr] at hfit
    have HN:=hid (show nrQ s.data.toList=_ from (HNR.out.trans (by rw[← hr])).trans hfit)
    generalize valD (d.data.toList.take k) 0=v at *
    have v0:(0:Int)≤v:=by omega
    have v1:(v:Int)≤9007199254740991:=by omega
    clear hr hv hfit
    go_wp2
    go_ret3
    exact InEnd.yes HN.out (by simp) (by omega) (Below.refl _ _)
theorem intq_above (s d:ByteArray) (W:World) (hs:s.size≤1000000) (h48:s.data.toList.head?≠some 48) (hd:s=d∧d.data.toList.head?≠some 45) :
   Calls Tryz.prog 123 #[.string s] W (InEnd s.data.toList W):=by
 have HP:=hid (fun w=>Tryz.strings_HasPrefix s ⟨#[48]⟩ w)
 rw[show (⟨#[48]⟩:ByteArray).data.toList=[48] from rfl,pre_one,decide_eq_false h48] at HP
 have HC:=hid (fun w=>Tryz.strings_CutPrefix s ⟨#[45]⟩ w)
 rw[show (⟨#[45]⟩:ByteArray).data.toList=[45] from rfl] at HC
 obtain ⟨rfl,h45⟩:=hd
 have hm:minB s.data.toList=0:=by unfold minB;exact if_neg h45
 have hpre:Lib.hasPrefix s.data.toList [45]=false:=by rw[pre_one];exact decide_eq_false h45
 have htrim:Lib.trimPrefix s.data.toList [45]=s.data.toList:=by unfold Lib.trimPrefix;rw[hpre];rfl
 have hds:s.size≤1000000:=hs
 have hnr:nrQ s.data.toList=intD 0 s.data.toList (runD s.data.toList):=by rw[nrQ_on hm,List.drop_zero,if_neg h48]
 have G48:=hid h48
 clear hm
 rw[hpre,htrim,ba_list] at HC
 clear hpre htrim h48 h45
 have HNR:=hid hnr
 clear hnr
 go_enter Tryz.func123,Tryz.ntmps123
 have tk:=trivial
 go_wp2_with (first
   | (go_at_call 132;clear tk;with_reducible refine (HP.out _).mono ?_;rintro e w' ⟨rfl,rfl⟩)
   | (go_at_call 53;refine (HC.out _).mono ?_;rintro e w' ⟨rfl,rfl⟩)
   | (go_at_call 132;with_reducible refine (HP.out _).mono ?_;rintro e w' ⟨rfl,rfl⟩))
 go_loopw [2,3] (fun vv vi wr=>RelIq s w' vv vi wr) (fun _ vi _=>s.size-(intOf vi).toNat)
 case atStart=>exact ⟨0,Nat.zero_le _,rfl,rfl,by simp,by simp[valD],rfl⟩
 case round =>
   obtain ⟨k,hk,rfl,rfl,hr,hv,rfl⟩:=hrel
   by_cases hlt:k<s.size
   ·have hltI:(k:Int)<s.size:=by omega
    have HD:=hid (fun w=>digit_any s[k].toNat w)
    rw[digB_is] at HD
    rw[runD_dropq s k hlt] at hr
    have hst:=valD_takeq s k hlt
    cases hdg:digB s[k]
    ·rw [hdg] at HD hr
     have hr:k=runD s.data.toList:=hr
     by_cases k0:k=0
     ·subst k0
      have HN:=hid (show nrQ s.data.toList=none by rw[HNR.out,← hr];unfold intD;exact if_pos (.inl rfl))
      clear hr hv hst
      go_wp2_with (go_at_call 103;refine (HD.out _).mono ?_;rintro e w' ⟨rfl,rfl⟩)
      go_ret3
      exact InEnd.no HN.out (Below.refl _ _)
     have k0I:((k:Int)==0)=false:=beq_eq_false_iff_ne.2 (by omega)
     have hfit:=int_fits (m:=0) G48.out (by omega) (by rw[← hr];omega)
     rw[← hr] at hfit
     have HN:=hid (show nrQ s.data.toList=_ from (HNR.out.trans (by rw[← hr])).trans hfit)
     generalize valD (s.data.toList.take k) 0=v at *
     have v0:(0:Int)≤v:=by omega
     have v1:(v:Int)≤9007199254740991:=by omega
     clear hr hv hst hfit
     go_wp2_with (go_at_call 103;refine (HD.out _).mono ?_;rintro e w' ⟨rfl,rfl⟩)
     go_ret3
     exact InEnd.yes HN.out (by simp) (by omega) (Below.refl _ _)
    ·rw [hdg] at HD hr
     have hk1:k+1≤runD s.data.toList:=by have:k+(runD (s.data.toList.drop (k+1))+1)=runD s.data.toList:=hr;omega
     have hcd:=of_decide_eq_true (show decide (48≤s[k].toNat∧s[k].toNat≤57)=true from hdg)
     have hv2:valD (s.data.toList.take (k+1)) 0≤90071992547409920:=by rw[hst];omega
     have hr2:k+1+runD (s.data.toList.drop (k+1))=runD s.data.toList:=by have:k+(runD (s.data.toList.drop (k+1))+1)=runD s.data.toList:=hr;omega
     have hkI:(k:Int)≤1000000:=by omega
     have u1:(48:Int)≤s[k].toNat∧(s[k].toNat:Int)≤57:=by omega
     have u2:(0:Int)≤(valD (s.data.toList.take k) 0:Nat)∧((valD (s.data.toList.take k) 0:Nat):Int)≤9007199254740991:=by omega
     have hsum:(10:Int)*(valD (s.data.toList.take k) 0:Nat)+((s[k].toNat:Int)-48)=(valD (s.data.toList.take (k+1)) 0:Nat):=by rw[hst];omega
     by_cases hov:9007199254740991<valD (s.data.toList.take (k+1)) 0
     ·have HN:=hid (show nrQ s.data.toList=none from HNR.out.trans (int_over hk1 hov))
      generalize valD (s.data.toList.take (k+1)) 0=v2 at *
      generalize valD (s.data.toList.take k) 0=v at *
      have ovI:(v2:Int)>9007199254740991:=by omega
      clear hr hst hr2 hdg
      go_wp2_with (go_at_call 103;refine (HD.out _).mono ?_;rintro e w' ⟨rfl,rfl⟩)
      go_ret3
      exact InEnd.no HN.out (Below.refl _ _)
     ·have HR2:=hid hr2
      have HV2:=hid (show valD (s.data.toList.take (k+1)) 0≤9007199254740991 by omega)
      generalize hg2:valD (s.data.toList.take (k+1)) 0=v2 at *
      have HG2:=hid hg2
      generalize valD (s.data.toList.take k) 0=v at *
      have ovI:¬ (v2:Int)>9007199254740991:=by omega
      clear hr hst hr2 hdg hg2
      go_wp2_with (go_at_call 103;refine (HD.out _).mono ?_;rintro e w' ⟨rfl,rfl⟩)
      go_roundw
      case rel=>exact ⟨k+1,hlt,by go_num,by rw[HG2.out],HR2.out,by rw[HG2.out];exact HV2.out,rfl⟩
      case measure=>simp[intOf];omega
   ·have hltI:¬ (k:Int)<s.size:=by omega
    rw[List.drop_of_length_le (by show s.size≤k;omega)] at hr
    have hr:k=runD s.data.toList:=hr
    by_cases k0:k=0
    ·subst k0
     have HN:=hid (show nrQ s.data.toList=none by rw[HNR.out,← hr];unfold intD;exact if_pos (.inl rfl))
     clear hr hv
     go_wp2
     go_ret3
     exact InEnd.no HN.out (Below.refl _ _)
    have k0I:((k:Int)==0)=false:=beq_eq_false_iff_ne.2 (by omega)
    have hfit:=int_fits (m:=0) G48.out (by omega) (by rw[← hr];omega)
    rw[← hr] at hfit
    have HN:=hid (show nrQ s.data.toList=_ from (HNR.out.trans (by rw[← hr])).trans hfit)
    generalize valD (s.data.toList.take k) 0=v at *
    have v0:(0:Int)≤v:=by omega
    have v1:(v:Int)≤9007199254740991:=by omega
    clear hr hv hfit
    go_wp2
    go_ret3
    exact InEnd.yes HN.out (by simp) (by omega) (Below.refl _ _)
theorem intq_any (s:ByteArray) (W:World) (hs:s.size≤1000000) :
   Calls Tryz.prog 123 #[.string s] W (InEnd s.data.toList W):=by
 by_cases h48:s.data.toList.head?=some 48
 ·exact intq_zero s W h48
 by_cases h45:s.data.toList.head?=some 45
 ·refine intq_below s ⟨s.data.toList.tail.toArray⟩ W hs h48 ?_
  cases hc:s.data.toList with
  | nil=>rw[hc] at h45;cases h45
  | cons a t=>rw[hc] at h45;rw[Option.some.inj h45];rfl
 ·exact intq_above s s W hs h48 ⟨rfl,h45⟩
end
section
open Go.RowKit
theorem nrq_in {l:List UInt8} {v:Int} {n:Nat} (h:nrQ l=some (v,n)):n≤l.length:=by
 have hm:=minB_le l
 unfold nrQ at h
 have hl:=runD_le (l.drop (minB l))
 rw[List.length_drop] at hl
 split at h
 ·rename_i h48
  split at h
  ·cases h
  ·injection h with h
   injection h with h1 h2
   cases l with
   | nil=>simp at h48
   | cons a t=>simp;omega
 ·have:=intD_in (v:=0) h
  omega
theorem Went.new {w w':World}{b:Nat}{l:List UInt8}(h:RdR w b l)(hb:Below w.heap.size w w'):Went w b l w':=⟨Own.stay h hb h.inside,Turned.of_below hb rfl⟩
theorem integer_any (b:Nat) (l:List UInt8) (W:World) (h:RdR W b l) (hl:l.length≤1000000) :
   Calls Tryz.prog 106 #[.pointer (some ⟨b,0,none⟩)] W fun e w'=>e=.returned (.tuple #[.int .i64 ((intA l).1.getD 0),.bool (intA l).1.isSome])∧Went W b (intA l).2 w':=by
 obtain ⟨s,rfl⟩:∃ s:ByteArray,l=s.data.toList:=⟨⟨l.toArray⟩,rfl⟩
 have hs:s.size≤1000000:=hl
 have c0:=h.at0
 rw[ba_list] at c0
 have HI:=hid (intq_any s W hs)
 have HW:=hid h
 cases hn:nrQ s.data.toList with
 | none =>
   unfold InEnd at HI
   rw[hn] at HI
   rw[intA_no hn]
   clear h hn hl
   have k0:(0:Int)≤s.size:=by omega
   go_enter Tryz.func106,Tryz.ntmps106
   go_wp2_with (go_at_call 123;refine HI.out.mono ?_;rintro e w1 ⟨rfl,hb⟩;have hw:=Went.new HW.out hb;have c1:=hw.1.at0;rw[ba_list] at c1;have f1:=hw.1.free0;have HP:=hid (hw.trans (RdR.put0 (m:=s.data.toList) hw.1));clear hb hw)
   go_ret2
   have:=HP.out
   rw[ba_list] at this
   exact ⟨rfl,this⟩
 | some p =>
   obtain ⟨v,n⟩:=p
   unfold InEnd at HI
   rw[hn] at HI
   rw[intA_yes hn]
   have hle:n≤s.size:=nrq_in hn
   have k0:(n:Int)≤s.size:=by omega
   have HT:=hid (ext_tail s n hle)
   clear h hn hl
   go_enter Tryz.func106,Tryz.ntmps106
   go_wp2_with (go_at_call 123;refine HI.out.mono ?_;rintro e w1 ⟨rfl,hb⟩;have hw:=Went.new HW.out hb;have c1:=hw.1.at0;rw[ba_list] at c1;have f1:=hw.1.free0;have HP:=hid (hw.trans (RdR.put0 (m:=s.data.toList.drop n) hw.1));clear hb hw)
   go_ret2
   exact ⟨rfl,by rw[HT.out];exact HP.out⟩
def NmEnd (o:Option (List UInt8×List UInt8)) (b:Nat) (W:World) (e:Ending) (w':World):Prop :=
 ∃ (nm:ByteArray) (ok:Bool) (r:List UInt8),e=.returned (.tuple #[.string nm,.bool ok])∧Went W b r w'∧match o with
   | none=>ok=false
   | some (u,r')=>ok=true∧nm=⟨u.toArray⟩∧r=r'
theorem double_any (b:Nat) (l:List UInt8) (W:World) (h:RdR W b l) (hl:l.length≤1000000) :
   Calls Tryz.prog 105 #[.pointer (some ⟨b,0,none⟩)] W (NmEnd (dblR l) b W):=by
 obtain ⟨s,rfl⟩:∃ s:ByteArray,l=s.data.toList:=⟨⟨l.toArray⟩,rfl⟩
 have hs:s.size≤1000000:=hl
 have c0:=h.at0
 rw[ba_list] at c0
 have HI:=hid (read_any s W (by omega))
 have HW:=hid h
 have hcase:∃ (t:List UInt8) (n:Nat) (j:Int) (ok:Bool),readR .plain s.data.toList [] 0=(t,n,j)∧n≤s.size∧(j==1)=ok∧match dblR s.data.toList with
   | none=>ok=false
   | some (u,r')=>ok=true∧(⟨t.toArray⟩:ByteArray)=⟨u.toArray⟩∧s.data.toList.drop n=r':=by
   unfold dblR
   rcases readR_cases s.data.toList .plain [] 0 with ⟨u,m,h1,h2⟩|⟨h1,m,j,h2,h3,h4⟩
   ·rw[h1]
    have:=read_least _ _ _ _ _ _ h1
    exact ⟨u,m,1,true,h2,by have:m≤0+s.data.toList.length:=this.2;have e:s.data.toList.length=s.size:=rfl;omega,rfl,rfl,rfl,rfl⟩
   ·rw[h1]
    exact ⟨[],m,j,false,h2,by have e:s.data.toList.length=s.size:=rfl;omega,beq_eq_false_iff_ne.2 h3,rfl⟩
 obtain ⟨t,n,j,ok,hr,hle,hj,hm⟩:=hcase
 rw[hr] at HI
 have k0:(n:Int)≤s.size:=by omega
 have HT:=hid (ext_tail s n hle)
 have HM:=hid hm
 clear h hl hr hm
 go_enter Tryz.func105,Tryz.ntmps105
 go_wp2_with (go_at_call 121;refine HI.out.mono ?_;rintro e w1 ⟨rfl,hb⟩;have hw:=Went.new HW.out hb;have c1:=hw.1.at0;rw[ba_list] at c1;have f1:=hw.1.free0;have HP:=hid (hw.trans (RdR.put0 (m:=s.data.toList.drop n) hw.1));clear hb hw)
 go_ret2
 exact ⟨_,_,_,rfl,by rw[HT.out];exact HP.out,HM.out⟩
end
section
open Go.RowKit
def SqI (W:World)(b:Nat)(acc r:List UInt8)(w:World):Prop:=b<W.heap.size∧BldS w W.heap.size (fun k=>W.heap.size≤k) acc∧Went W b r w
section
variable {W w w':World} {b:Nat} {acc r r':List UInt8}
theorem SqI.went (h:SqI W b acc r w) (hw:Went w b r' w'):SqI W b acc r' w':=by
 have hz:W.heap.size≤w.heap.size:=h.2.2.2.2.2.2.1
 exact ⟨h.1,h.2.1.bound.stay (G:=fun k=>k=b) (Touch.of_turned hw.2 rfl) (fun k hk h1 e=>by have:=h1.1;have:=h.1;omega) |>.mono (fun k h=>h.1),h.2.2.trans hw⟩
theorem SqI.start (h:RdR W b r):SqI W b [] r (W.alloc (.cells #[.pointer none,.slice none 0 0] 178)) :=
 ⟨h.inside,BldS.fresh W (fun k=>W.heap.size≤k) (Nat.le_refl _),Went.new h (below1 W _)⟩
theorem SqI.touch (h:SqI W b acc r w) {l:List UInt8} (hB:BldS w' W.heap.size (fun k=>W.heap.size≤k∨w.heap.size≤k) l) (ht:Touch (fun k=>W.heap.size≤k) w w'):SqI W b l r w':=by
 have hz:W.heap.size≤w.heap.size:=h.2.2.2.2.2.2.1
 refine ⟨h.1,hB.mono (fun k hk=>hk.elim id (fun h=>by omega)),ht.own h.2.2.1 (by have:=h.1;omega),?_⟩
 have t:=h.2.2.2
 exact ⟨ht.os.trans t.1,ht.tape.trans t.2.1,ht.output.trans t.2.2.1,Nat.le_trans t.2.2.2.1 ht.size,fun k hk hne=>(ht.block k (by omega) (by omega)).trans (t.2.2.2.2 k hk hne)⟩
theorem SqI.byte (h:SqI W b acc r w) (hl:acc.length≤1000000000) (c:UInt8) :
   Calls Tryz.prog 120 #[.pointer (some ⟨W.heap.size,0,none⟩),.int .u8 c.toNat] w fun e w'=>e=.returned .nilIface∧SqI W b (acc++[c]) r w':=by
 refine (writeByte_any _ _ acc c w h.2.1 (by omega)).mono ?_
 rintro e w' ⟨rfl,h1,h2⟩
 exact ⟨rfl,h.touch h1 h2⟩
theorem SqI.str (h:SqI W b acc r w) (hl:acc.length≤1000000000) (s:ByteArray) (hs:s.size≤10) :
   Calls Tryz.prog 119 #[.pointer (some ⟨W.heap.size,0,none⟩),.string s] w fun e w'=>e=.returned (.tuple #[.int .i64 s.size,.nilIface])∧SqI W b (acc++s.data.toList) r w':=by
 refine (writeString_any _ _ acc s w h.2.1 (by omega)).mono ?_
 rintro e w' ⟨rfl,h1,h2⟩
 exact ⟨rfl,h.touch h1 h2⟩
theorem SqI.text (h:SqI W b acc r w) (hl:acc.length≤1000000000) :
   Calls Tryz.prog 122 #[.pointer (some ⟨W.heap.size,0,none⟩)] w fun e w'=>e=.returned (.string ⟨acc.toArray⟩)∧Went W b r w':=by
 have hz:W.heap.size≤w.heap.size:=h.2.2.2.2.2.2.1
 refine (Tryz.Builder_String_any_k W.heap.size _ _ _ (BldS.is h.2.1 (B:=W.heap.size) (fun k hk=>hk)) (by omega)).mono ?_
 rintro e w3 ⟨rfl,hi,hb3,_⟩
 have t:=h.2.2.2
 exact ⟨rfl,Own.stay h.2.2.1 hb3 h.1,hb3.os.trans t.1,hb3.tape.trans t.2.1,hb3.output.trans t.2.2.1,Nat.le_trans t.2.2.2.1 hb3.size,fun k hk hne=>(hb3.block k hk).trans (t.2.2.2.2 k hk hne)⟩
theorem SqI.cell (h:SqI W b acc r w):w.cell? ⟨b,0,none⟩=some (.string ⟨r.toArray⟩):=h.2.2.1.at0
theorem SqI.free (h:SqI W b acc r w):w.frozen? ⟨b,0,none⟩=false:=h.2.2.1.free0
theorem SqI.yes {c:UInt8} (h:SqI W b acc (c :: r) w) :
   Calls Tryz.prog 34 #[.pointer (some ⟨b,0,none⟩),.string ⟨#[c]⟩] w fun e w'=>e=.returned (.bool true)∧SqI W b acc r w':=by
 refine (take_yes b c r w h.2.2.1).mono ?_
 rintro e w' ⟨rfl,hw⟩
 exact ⟨rfl,h.went hw⟩
theorem SqI.no {c:UInt8} (h:SqI W b acc r w) (hc:r.head?≠some c) :
   Calls Tryz.prog 34 #[.pointer (some ⟨b,0,none⟩),.string ⟨#[c]⟩] w fun e w'=>e=.returned (.bool false)∧SqI W b acc r w':=by
 refine (take_no b c r w h.2.2.1 hc).mono ?_
 rintro e w' ⟨rfl,hw⟩
 exact ⟨rfl,h.went hw⟩
theorem SqI.yes2 {c d:UInt8} (h:SqI W b acc (c :: d :: r) w) :
   Calls Tryz.prog 34 #[.pointer (some ⟨b,0,none⟩),.string ⟨#[c,d]⟩] w fun e w'=>e=.returned (.bool true)∧SqI W b acc r w':=by
 refine (take_two_yes b c d r w h.2.2.1).mono ?_
 rintro e w' ⟨rfl,hw⟩
 exact ⟨rfl,h.went hw⟩
theorem SqI.no2 {c d:UInt8} (h:SqI W b acc r w) (hc:r.take 2≠[c,d]) :
   Calls Tryz.prog 34 #[.pointer (some ⟨b,0,none⟩),.string ⟨#[c,d]⟩] w fun e w'=>e=.returned (.bool false)∧SqI W b acc r w':=by
 refine (take_two_no b c d r w h.2.2.1 hc).mono ?_
 rintro e w' ⟨rfl,hw⟩
 exact ⟨rfl,h.went hw⟩
end
def RelSq (b:Nat) (l:List UInt8) (W wr:World):Prop :=
 ∃ (r acc:List UInt8) (f:Nat),SqI W b acc r wr∧r.length<f∧r.length≤l.length∧acc.length≤2*(l.length-r.length)∧trL (l.length+1) l=(trL f r).map fun p=>(acc++p.1,p.2)
theorem RelSq.one {b:Nat} {l:List UInt8} {W w:World} {r r' acc x:List UInt8} {f:Nat} (h:SqI W b (acc++x) r' w) (hf:r.length<f+1) (hr:r.length≤l.length) (ha:acc.length≤2*(l.length-r.length))
   (ht:trL (l.length+1) l=(trL (f+1) r).map fun p=>(acc++p.1,p.2)) (hx:x.length≤2*(r.length-r'.length)) (hlt:r'.length<r.length) (hs:trL (f+1) r=(trL f r').map fun p=>(x++p.1,p.2)):RelSq b l W w:=by
 refine ⟨r',acc++x,f,h,by omega,by omega,by rw[List.length_append];omega,?_⟩
 rw[ht,hs]
 cases trL f r' with
 | none=>rfl
 | some p=>show some (acc++(x++p.1),p.2)=some (acc++x++p.1,p.2);rw[List.append_assoc]
theorem muR_sq {W w:World}{b:Nat}{acc r:List UInt8}(h:SqI W b acc r w):muR b w=r.length:=muR_is h.2.2.1
theorem single_any (b:Nat) (l:List UInt8) (W:World) (h:RdR W b l) (hl:l.length≤1000000) :
   Calls Tryz.prog 104 #[.pointer (some ⟨b,0,none⟩)] W (NmEnd (sngR l) b W):=by
 have HR0:=hid (show RelSq b l W (W.alloc (.cells #[.pointer none,.slice none 0 0] 178)) from ⟨l,[],l.length+1,SqI.start h,Nat.lt_succ_self _,Nat.le_refl _,by simp,by cases trL (l.length+1) l<;>rfl⟩)
 clear h
 go_enter Tryz.func104,Tryz.ntmps104
 go_wp2
 go_loopw [8] (fun _ wr=>RelSq b l W wr) (fun _ wr=>muR b wr)
 case atStart=>exact HR0.out
 case round =>
   obtain ⟨r,acc,f,hI,hf,hr,ha,ht⟩:=hrel
   have HI:=hid hI
   have hal:acc.length≤100000000:=by omega
   obtain ⟨f,rfl⟩:∃ g,f=g+1:=⟨f-1,by omega⟩
   cases r with
   | nil =>
     have HN:=hid (show trL (l.length+1) l=none from ht)
     have K39:=hid (fun w (h:SqI W b acc [] w)=>SqI.no (c:=39) h (by decide))
     clear hI hf hr ha ht
     go_wp2_with (go_at_call 34;with_reducible refine (K39.out _ HI.out).mono ?_;rintro e w1 ⟨rfl,hi1⟩;have c1:=hi1.cell;have f1:=hi1.free;have HI1:=hid hi1;clear hi1)
     go_ret2
     exact ⟨_,_,_,rfl,HI1.out.2.2,by unfold sngR;rw[HN.out];rfl⟩
   | cons c t =>
     have hne:=isEmpty_no (⟨(c :: t).toArray⟩:ByteArray) (by show (c :: t).length≠0;simp)
     have hne2:((⟨(c :: t).toArray⟩:ByteArray).size==0)=false:=rfl
     have ht2:=ht
     rw[trL_on] at ht2
     by_cases c39:c=39
     ·subst c39
      rw[if_pos rfl] at ht2
      have HN:=hid (show trL (l.length+1) l=some (acc,t) by rw[ht2];show some (acc++[],t)=_;rw[List.append_nil])
      have KY:=hid (fun w (h:SqI W b acc (39 :: t) w)=>SqI.yes h)
      have KS:=hid (fun w (h:SqI W b acc t w)=>SqI.str h (by omega) ⟨#[34]⟩ (by decide))
      have KT:=hid (fun w (h:SqI W b (acc++[34]) t w)=>SqI.text h (by rw[List.length_append];show acc.length+1≤_;omega))
      have KR:=hid (fun w=>read_any ⟨(acc++[34]).toArray⟩ w (by show (acc++[34]).length≤_;rw[List.length_append];show acc.length+1≤_;omega))
      rw[list_ba] at KR
      have hcase:∃ (u:List UInt8) (n:Nat) (j:Int) (ok:Bool),readR .plain (acc++[34]) [] 0=(u,n,j)∧(j==1)=ok∧match sngR l with
        | none=>ok=false
        | some (u',r')=>ok=true∧(⟨u.toArray⟩:ByteArray)=⟨u'.toArray⟩∧t=r':=by
        unfold sngR
        rw[HN.out]
        show ∃ (u:List UInt8) (n:Nat) (j:Int) (ok:Bool),readR .plain (acc++[34]) [] 0=(u,n,j)∧(j==1)=ok∧match (readQ .plain (acc++[34]) [] 0).map (fun u=>(u.1,t)) with
          | none=>ok=false
          | some (u',r')=>ok=true∧(⟨u.toArray⟩:ByteArray)=⟨u'.toArray⟩∧t=r'
        rcases readR_cases (acc++[34]) .plain [] 0 with ⟨u,m,h1,h2⟩|⟨h1,m,j,h2,h3,h4⟩
        ·rw[h1]
         exact ⟨u,m,1,true,h2,rfl,rfl,rfl,rfl⟩
        ·rw[h1]
         exact ⟨[],m,j,false,h2,beq_eq_false_iff_ne.2 h3,rfl⟩
      obtain ⟨u,n,j,ok,hr9,hj,hm⟩:=hcase
      rw[hr9] at KR
      have HM:=hid hm
      clear hI hf hr ha ht ht2 hr9 hm
      generalize acc++[34]=accq at *
      go_wp2_with (first
        | (go_at_call 34;with_reducible refine (KY.out _ HI.out).mono ?_;rintro e w1 ⟨rfl,hi1⟩;have c1:=hi1.cell;have f1:=hi1.free;have HI1:=hid hi1;clear hi1)
        | (go_at_call 119;refine (KS.out _ HI1.out).mono ?_;rintro e w2 ⟨rfl,hi2⟩;have HI2:=hid hi2;clear hi2)
        | (go_at_call 122;refine (KT.out _ HI2.out).mono ?_;rintro e w3 ⟨rfl,hi3⟩;have HI3:=hid hi3;clear hi3)
        | (go_at_call 121;refine (KR.out _).mono ?_;rintro e w4 ⟨rfl,hb4⟩;have HI4:=hid (HI3.out.trans (Went.new HI3.out.1 hb4));clear hb4))
      go_ret2
      exact ⟨_,_,_,rfl,HI4.out,HM.out⟩
     rw[if_neg c39] at ht2
     have K39:=hid (fun w (h:SqI W b acc (c :: t) w)=>SqI.no (c:=39) h (fun e=>c39 (Option.some.inj e)))
     by_cases c34:c=34
     ·subst c34
      rw[if_pos rfl] at ht2
      have HREL:=hid (fun w (h:SqI W b (acc++[92,34]) t w)=>show RelSq b l W w from RelSq.one h hf hr ha ht (by simp<;>omega) (by simp<;>omega) (by rw[trL_on,if_neg (by decide),if_pos rfl];rfl))
      have HME:=hid (show t.length<(34 :: t).length by simp<;>omega)
      have K2:=hid (fun w (h:SqI W b acc (34 :: t) w)=>SqI.no2 (c:=92) (d:=34) h (by intro e;injection e with e _;exact absurd e (by decide)))
      have K3:=hid (fun w (h:SqI W b acc (34 :: t) w)=>SqI.no2 (c:=92) (d:=39) h (by intro e;injection e with e _;exact absurd e (by decide)))
      have K4:=hid (fun w (h:SqI W b acc (34 :: t) w)=>SqI.no2 (c:=92) (d:=92) h (by intro e;injection e with e _;exact absurd e (by decide)))
      have K5:=hid (fun w (h:SqI W b acc (34 :: t) w)=>SqI.yes h)
      have KS:=hid (fun w (h:SqI W b acc t w)=>SqI.str h (by omega) ⟨#[92,34]⟩ (by decide))
      clear hI hf hr ha ht ht2
      go_wp2_with (first
        | (go_at_call 34;with_reducible refine (K39.out _ HI.out).mono ?_;rintro e w1 ⟨rfl,hi1⟩;have c1:=hi1.cell;have f1:=hi1.free;have HI1:=hid hi1;clear hi1)
        | (go_at_call 34;with_reducible refine (K2.out _ HI1.out).mono ?_;rintro e w2 ⟨rfl,hi2⟩;have c2:=hi2.cell;have f2:=hi2.free;have HI2:=hid hi2;clear hi2)
        | (go_at_call 34;with_reducible refine (K3.out _ HI2.out).mono ?_;rintro e w3 ⟨rfl,hi3⟩;have c3:=hi3.cell;have f3:=hi3.free;have HI3:=hid hi3;clear hi3)
        | (go_at_call 34;with_reducible refine (K4.out _ HI3.out).mono ?_;rintro e w4 ⟨rfl,hi4⟩;have c4:=hi4.cell;have f4:=hi4.free;have HI4:=hid hi4;clear hi4)
        | (go_at_call 34;with_reducible refine (K5.out _ HI4.out).mono ?_;rintro e w5 ⟨rfl,hi5⟩;have c5:=hi5.cell;have f5:=hi5.free;have HI5:=hid hi5;clear hi5)
        | (go_at_call 119;refine (KS.out _ HI5.out).mono ?_;rintro e w6 ⟨rfl,hi6⟩;have HI6:=hid hi6;clear hi6))
      go_roundw
      case rel=>exact HREL.out _ HI6.out
      case measure=>rw[muR_sq HI6.out,muR_sq HI.out];exact HME.out
     rw[if_neg c34] at ht2
     have K5:=hid (fun w (h:SqI W b acc (c :: t) w)=>SqI.no (c:=34) h (fun e=>c34 (Option.some.inj e)))
     by_cases c92:c=92
     ·subst c92
      rw[if_pos rfl] at ht2
      cases t with
      | nil =>
        have HREL:=hid (fun w (h:SqI W b (acc++[92]) [] w)=>show RelSq b l W w from RelSq.one h hf hr ha ht (by simp<;>omega) (by simp<;>omega) (by rw[trL_on,if_neg (by decide),if_neg (by decide),if_pos rfl];rfl))
        have HME:=hid (show ([]:List UInt8).length<[(92:UInt8)].length by simp<;>omega)
        have K2:=hid (fun w (h:SqI W b acc [92] w)=>SqI.no2 (c:=92) (d:=34) h (by intro e;injection e with _ e;cases e))
        have K3:=hid (fun w (h:SqI W b acc [92] w)=>SqI.no2 (c:=92) (d:=39) h (by intro e;injection e with _ e;cases e))
        have K4:=hid (fun w (h:SqI W b acc [92] w)=>SqI.no2 (c:=92) (d:=92) h (by intro e;injection e with _ e;cases e))
        have KB:=hid (fun w (h:SqI W b acc [92] w)=>SqI.byte h (by omega) 92)
        have hi9:(⟨[92].toArray⟩:ByteArray)[0]'(by show 0<[92].length;simp)=92:=rfl
        have hz9:(⟨[92].toArray⟩:ByteArray).size=[].length+1:=rfl
        have h09:(0:Int)<(⟨[92].toArray⟩:ByteArray).size:=by rw[hz9];omega
        have h19:(1:Int)≤(⟨[92].toArray⟩:ByteArray).size:=by rw[hz9];omega
        have HT:=hid (show (⟨[92].toArray⟩:ByteArray).extract 1 (⟨[92].toArray⟩:ByteArray).size=⟨[].toArray⟩ from ext_tail _ 1 (by rw[hz9];omega))
        have HT2:=hid (show (⟨[92].toArray⟩:ByteArray).extract 1 ([].length+1)=⟨[].toArray⟩ from HT.out)
        clear hz9
        clear hI hf hr ha ht ht2
        go_wp2_with (first
          | (go_at_call 34;with_reducible refine (K39.out _ HI.out).mono ?_;rintro e w1 ⟨rfl,hi1⟩;have c1:=hi1.cell;have f1:=hi1.free;have HI1:=hid hi1;clear hi1)
          | (go_at_call 34;with_reducible refine (K2.out _ HI1.out).mono ?_;rintro e w2 ⟨rfl,hi2⟩;have c2:=hi2.cell;have f2:=hi2.free;have HI2:=hid hi2;clear hi2)
          | (go_at_call 34;with_reducible refine (K3.out _ HI2.out).mono ?_;rintro e w3 ⟨rfl,hi3⟩;have c3:=hi3.cell;have f3:=hi3.free;have HI3:=hid hi3;clear hi3)
          | (go_at_call 34;with_reducible refine (K4.out _ HI3.out).mono ?_;rintro e w4 ⟨rfl,hi4⟩;have c4:=hi4.cell;have f4:=hi4.free;have HI4:=hid hi4;clear hi4)
          | (go_at_call 34;with_reducible refine (K5.out _ HI4.out).mono ?_;rintro e w5 ⟨rfl,hi5⟩;have c5:=hi5.cell;have f5:=hi5.free;have HI5:=hid hi5;clear hi5)
          | (go_at_call 120;refine (KB.out _ HI5.out).mono ?_;rintro e w6 ⟨rfl,hi6⟩;have c6:=hi6.cell;have f6:=hi6.free;have HI6:=hid hi6;clear hi6))
        have HI7:=hid (HI6.out.went (RdR.put0 (m:=[]) HI6.out.2.2.1))
        go_roundw
        case rel=>exact HREL.out _ HI7.out
        case measure=>exact (by rw[muR_sq HI7.out,muR_sq HI.out];exact HME.out:muR b (w6.setCell ⟨b,0,none⟩ (.string ⟨([]:List UInt8).toArray⟩))<muR b wr)
      | cons d u =>
        by_cases d34:d=34
        ·subst d34
         rw[if_pos (show (34 :: u).head?=some 34 from rfl)] at ht2
         have HN:=hid (show trL (l.length+1) l=none from ht2)
         have K2:=hid (fun w (h:SqI W b acc (92 :: 34 :: u) w)=>SqI.yes2 h)
         clear hI hf hr ha ht ht2
         go_wp2_with (first
           | (go_at_call 34;with_reducible refine (K39.out _ HI.out).mono ?_;rintro e w1 ⟨rfl,hi1⟩;have c1:=hi1.cell;have f1:=hi1.free;have HI1:=hid hi1;clear hi1)
           | (go_at_call 34;with_reducible refine (K2.out _ HI1.out).mono ?_;rintro e w2 ⟨rfl,hi2⟩;have c2:=hi2.cell;have f2:=hi2.free;have HI2:=hid hi2;clear hi2))
         go_ret2
         exact ⟨_,_,_,rfl,HI2.out.2.2,by unfold sngR;rw[HN.out];rfl⟩
        have K2:=hid (fun w (h:SqI W b acc (92 :: d :: u) w)=>SqI.no2 (c:=92) (d:=34) h (by intro e;injection e with _ e;injection e with e _;exact d34 e))
        rw[if_neg (show ¬ (d :: u).head?=some 34 from fun e=>d34 (Option.some.inj e))] at ht2
        by_cases d39:d=39
        ·subst d39
         have HREL:=hid (fun w (h:SqI W b (acc++[39]) u w)=>show RelSq b l W w from RelSq.one h hf hr ha ht (by simp<;>omega) (by simp<;>omega) (by rw[trL_on,if_neg (by decide),if_neg (by decide),if_pos rfl];rfl))
         have HME:=hid (show u.length<(92 :: 39 :: u).length by simp<;>omega)
         have K3:=hid (fun w (h:SqI W b acc (92 :: 39 :: u) w)=>SqI.yes2 h)
         have KS:=hid (fun w (h:SqI W b acc u w)=>SqI.str h (by omega) ⟨#[39]⟩ (by decide))
         clear hI hf hr ha ht ht2
         go_wp2_with (first
           | (go_at_call 34;with_reducible refine (K39.out _ HI.out).mono ?_;rintro e w1 ⟨rfl,hi1⟩;have c1:=hi1.cell;have f1:=hi1.free;have HI1:=hid hi1;clear hi1)
           | (go_at_call 34;with_reducible refine (K2.out _ HI1.out).mono ?_;rintro e w2 ⟨rfl,hi2⟩;have c2:=hi2.cell;have f2:=hi2.free;have HI2:=hid hi2;clear hi2)
           | (go_at_call 34;with_reducible refine (K3.out _ HI2.out).mono ?_;rintro e w3 ⟨rfl,hi3⟩;have c3:=hi3.cell;have f3:=hi3.free;have HI3:=hid hi3;clear hi3)
           | (go_at_call 119;refine (KS.out _ HI3.out).mono ?_;rintro e w4 ⟨rfl,hi4⟩;have HI4:=hid hi4;clear hi4))
         go_roundw
         case rel=>exact HREL.out _ HI4.out
         case measure=>rw[muR_sq HI4.out,muR_sq HI.out];exact HME.out
        have K3:=hid (fun w (h:SqI W b acc (92 :: d :: u) w)=>SqI.no2 (c:=92) (d:=39) h (by intro e;injection e with _ e;injection e with e _;exact d39 e))
        by_cases d92:d=92
        ·subst d92
         have HREL:=hid (fun w (h:SqI W b (acc++[92,92]) u w)=>show RelSq b l W w from RelSq.one h hf hr ha ht (by simp<;>omega) (by simp<;>omega) (by rw[trL_on,if_neg (by decide),if_neg (by decide),if_pos rfl];rfl))
         have HME:=hid (show u.length<(92 :: 92 :: u).length by simp<;>omega)
         have K4:=hid (fun w (h:SqI W b acc (92 :: 92 :: u) w)=>SqI.yes2 h)
         have KS:=hid (fun w (h:SqI W b acc u w)=>SqI.str h (by omega) ⟨#[92,92]⟩ (by decide))
         clear hI hf hr ha ht ht2
         go_wp2_with (first
           | (go_at_call 34;with_reducible refine (K39.out _ HI.out).mono ?_;rintro e w1 ⟨rfl,hi1⟩;have c1:=hi1.cell;have f1:=hi1.free;have HI1:=hid hi1;clear hi1)
           | (go_at_call 34;with_reducible refine (K2.out _ HI1.out).mono ?_;rintro e w2 ⟨rfl,hi2⟩;have c2:=hi2.cell;have f2:=hi2.free;have HI2:=hid hi2;clear hi2)
           | (go_at_call 34;with_reducible refine (K3.out _ HI2.out).mono ?_;rintro e w3 ⟨rfl,hi3⟩;have c3:=hi3.cell;have f3:=hi3.free;have HI3:=hid hi3;clear hi3)
           | (go_at_call 34;with_reducible refine (K4.out _ HI3.out).mono ?_;rintro e w4 ⟨rfl,hi4⟩;have c4:=hi4.cell;have f4:=hi4.free;have HI4:=hid hi4;clear hi4)
           | (go_at_call 119;refine (KS.out _ HI4.out).mono ?_;rintro e w5 ⟨rfl,hi5⟩;have HI5:=hid hi5;clear hi5))
         go_roundw
         case rel=>exact HREL.out _ HI5.out
         case measure=>rw[muR_sq HI5.out,muR_sq HI.out];exact HME.out
        have K4:=hid (fun w (h:SqI W b acc (92 :: d :: u) w)=>SqI.no2 (c:=92) (d:=92) h (by intro e;injection e with _ e;injection e with e _;exact d92 e))
        have HREL:=hid (fun w (h:SqI W b (acc++[92]) (d :: u) w)=>show RelSq b l W w from RelSq.one h hf hr ha ht (by simp<;>omega) (by simp<;>omega) (by rw[trL_on,if_neg (by decide),if_neg (by decide),if_pos rfl,if_neg (show ¬ (d :: u).head?=some 34 from fun e=>d34 (Option.some.inj e)),if_neg (show ¬ (d :: u).head?=some 39 from fun e=>d39 (Option.some.inj e)),if_neg (show ¬ (d :: u).head?=some 92 from fun e=>d92 (Option.some.inj e))];rfl))
        have HME:=hid (show (d :: u).length<(92 :: d :: u).length by simp<;>omega)
        generalize d :: u=t at *
        have KB:=hid (fun w (h:SqI W b acc (92 :: t) w)=>SqI.byte h (by omega) 92)
        have hi9:(⟨(92 :: t).toArray⟩:ByteArray)[0]'(by show 0<(92 :: t).length;simp)=92:=rfl
        have hz9:(⟨(92 :: t).toArray⟩:ByteArray).size=t.length+1:=rfl
        have h09:(0:Int)<(⟨(92 :: t).toArray⟩:ByteArray).size:=by rw[hz9];omega
        have h19:(1:Int)≤(⟨(92 :: t).toArray⟩:ByteArray).size:=by rw[hz9];omega
        have HT:=hid (show (⟨(92 :: t).toArray⟩:ByteArray).extract 1 (⟨(92 :: t).toArray⟩:ByteArray).size=⟨t.toArray⟩ from ext_tail _ 1 (by rw[hz9];omega))
        have HT2:=hid (show (⟨(92 :: t).toArray⟩:ByteArray).extract 1 (t.length+1)=⟨t.toArray⟩ from HT.out)
        clear hz9
        clear hI hf hr ha ht ht2
        go_wp2_with (first
          | (go_at_call 34;with_reducible refine (K39.out _ HI.out).mono ?_;rintro e w1 ⟨rfl,hi1⟩;have c1:=hi1.cell;have f1:=hi1.free;have HI1:=hid hi1;clear hi1)
          | (go_at_call 34;with_reducible refine (K2.out _ HI1.out).mono ?_;rintro e w2 ⟨rfl,hi2⟩;have c2:=hi2.cell;have f2:=hi2.free;have HI2:=hid hi2;clear hi2)
          | (go_at_call 34;with_reducible refine (K3.out _ HI2.out).mono ?_;rintro e w3 ⟨rfl,hi3⟩;have c3:=hi3.cell;have f3:=hi3.free;have HI3:=hid hi3;clear hi3)
          | (go_at_call 34;with_reducible refine (K4.out _ HI3.out).mono ?_;rintro e w4 ⟨rfl,hi4⟩;have c4:=hi4.cell;have f4:=hi4.free;have HI4:=hid hi4;clear hi4)
          | (go_at_call 34;with_reducible refine (K5.out _ HI4.out).mono ?_;rintro e w5 ⟨rfl,hi5⟩;have c5:=hi5.cell;have f5:=hi5.free;have HI5:=hid hi5;clear hi5)
          | (go_at_call 120;refine (KB.out _ HI5.out).mono ?_;rintro e w6 ⟨rfl,hi6⟩;have c6:=hi6.cell;have f6:=hi6.free;have HI6:=hid hi6;clear hi6))
        have HI7:=hid (HI6.out.went (RdR.put0 (m:=t) HI6.out.2.2.1))
        go_roundw
        case rel=>(first|rw[HT.out]|rw[HT2.out]);exact HREL.out _ HI7.out
        case measure=>(first|rw[HT.out]|rw[HT2.out]);rw[muR_sq HI7.out,muR_sq HI.out];exact HME.out
     ·have HREL:=hid (fun w (h:SqI W b (acc++[c]) t w)=>show RelSq b l W w from RelSq.one h hf hr ha ht (by simp<;>omega) (by simp<;>omega) (by rw[trL_on,if_neg c39,if_neg c34,if_neg c92];rfl))
      have HME:=hid (show t.length<(c :: t).length by simp<;>omega)
      have K2:=hid (fun w (h:SqI W b acc (c :: t) w)=>SqI.no2 (c:=92) (d:=34) h (by intro e;cases t<;>(injection e with e _;exact c92 e)))
      have K3:=hid (fun w (h:SqI W b acc (c :: t) w)=>SqI.no2 (c:=92) (d:=39) h (by intro e;cases t<;>(injection e with e _;exact c92 e)))
      have K4:=hid (fun w (h:SqI W b acc (c :: t) w)=>SqI.no2 (c:=92) (d:=92) h (by intro e;cases t<;>(injection e with e _;exact c92 e)))
      have KB:=hid (fun w (h:SqI W b acc (c :: t) w)=>SqI.byte h (by omega) c)
      have hi9:(⟨(c :: t).toArray⟩:ByteArray)[0]'(by show 0<(c :: t).length;simp)=c:=rfl
      have hz9:(⟨(c :: t).toArray⟩:ByteArray).size=t.length+1:=rfl
      have h09:(0:Int)<(⟨(c :: t).toArray⟩:ByteArray).size:=by rw[hz9];omega
      have h19:(1:Int)≤(⟨(c :: t).toArray⟩:ByteArray).size:=by rw[hz9];omega
      have HT:=hid (show (⟨(c :: t).toArray⟩:ByteArray).extract 1 (⟨(c :: t).toArray⟩:ByteArray).size=⟨t.toArray⟩ from ext_tail _ 1 (by rw[hz9];omega))
      have HT2:=hid (show (⟨(c :: t).toArray⟩:ByteArray).extract 1 (t.length+1)=⟨t.toArray⟩ from HT.out)
      clear hz9
      clear hI hf hr ha ht ht2
      go_wp2_with (first
        | (go_at_call 34;with_reducible refine (K39.out _ HI.out).mono ?_;rintro e w1 ⟨rfl,hi1⟩;have c1:=hi1.cell;have f1:=hi1.free;have HI1:=hid hi1;clear hi1)
        | (go_at_call 34;with_reducible refine (K2.out _ HI1.out).mono ?_;rintro e w2 ⟨rfl,hi2⟩;have c2:=hi2.cell;have f2:=hi2.free;have HI2:=hid hi2;clear hi2)
        | (go_at_call 34;with_reducible refine (K3.out _ HI2.out).mono ?_;rintro e w3 ⟨rfl,hi3⟩;have c3:=hi3.cell;have f3:=hi3.free;have HI3:=hid hi3;clear hi3)
        | (go_at_call 34;with_reducible refine (K4.out _ HI3.out).mono ?_;rintro e w4 ⟨rfl,hi4⟩;have c4:=hi4.cell;have f4:=hi4.free;have HI4:=hid hi4;clear hi4)
        | (go_at_call 34;with_reducible refine (K5.out _ HI4.out).mono ?_;rintro e w5 ⟨rfl,hi5⟩;have c5:=hi5.cell;have f5:=hi5.free;have HI5:=hid hi5;clear hi5)
        | (go_at_call 120;refine (KB.out _ HI5.out).mono ?_;rintro e w6 ⟨rfl,hi6⟩;have c6:=hi6.cell;have f6:=hi6.free;have HI6:=hid hi6;clear hi6))
      have HI7:=hid (HI6.out.went (RdR.put0 (m:=t) HI6.out.2.2.1))
      go_roundw
      case rel=>(first|rw[HT.out]|rw[HT2.out]);exact HREL.out _ HI7.out
      case measure=>(first|rw[HT.out]|rw[HT2.out]);rw[muR_sq HI7.out,muR_sq HI.out];exact HME.out
end
section
open Go.RowKit
def SlI (W:World) (b:Nat) (r:List UInt8) (cs ds:Array Value) (w:World):Prop :=
 b<W.heap.size∧r.length≤1000000∧Went W b r w∧Own w W.heap.size 42 cs∧Own w (W.heap.size+1) 42 ds
section
variable {W w w':World} {b:Nat} {r r':List UInt8} {cs ds:Array Value}
theorem SlI.went (h:SlI W b r cs ds w) (hw:Went w b r' w') (hl:r'.length≤r.length):SlI W b r' cs ds w' :=
 ⟨h.1,Nat.le_trans hl h.2.1,h.2.2.1.trans hw,Own.turned h.2.2.2.1 hw.2 (by have:=h.1;omega),Own.turned h.2.2.2.2 hw.2 (by have:=h.1;omega)⟩
theorem SlI.put (h:SlI W b r cs ds w) (i:Nat) (u:Value):SlI W b r (cs.setIfInBounds i u) ds (w.setCell ⟨W.heap.size,i,none⟩ u) :=
 ⟨h.1,h.2.1,⟨h.2.2.1.1.past (by have:=h.1;show b≠W.heap.size;omega) u,by
   have t:=h.2.2.1.2
   refine ⟨t.1,t.2.1,t.2.2.1,by simpa [World.setCell] using t.2.2.2.1,fun k hk hne=>(Below.heap_setCell w ⟨W.heap.size,i,none⟩ u k (by show k≠W.heap.size;omega)).trans (t.2.2.2.2 k hk hne)⟩⟩,Own.put h.2.2.2.1 i u,h.2.2.2.2.past (by show W.heap.size+1≠W.heap.size;omega) u⟩
theorem SlI.res (h:SlI W b r cs ds w) (i:Nat) (u:Value):SlI W b r cs (ds.setIfInBounds i u) (w.setCell ⟨W.heap.size+1,i,none⟩ u) :=
 ⟨h.1,h.2.1,⟨h.2.2.1.1.past (by have:=h.1;show b≠W.heap.size+1;omega) u,by
   have t:=h.2.2.1.2
   refine ⟨t.1,t.2.1,t.2.2.1,by simpa [World.setCell] using t.2.2.2.1,fun k hk hne=>(Below.heap_setCell w ⟨W.heap.size+1,i,none⟩ u k (by show k≠W.heap.size+1;omega)).trans (t.2.2.2.2 k hk hne)⟩⟩,h.2.2.2.1.past (by show W.heap.size≠W.heap.size+1;omega) u,Own.put h.2.2.2.2 i u⟩
theorem SlI.at (h:SlI W b r cs ds w)(i:Nat):w.cell? ⟨W.heap.size,i,none⟩=cs[i]?:=h.2.2.2.1.at i
theorem SlI.free (h:SlI W b r cs ds w)(i:Nat):w.frozen? ⟨W.heap.size,i,none⟩=false:=h.2.2.2.1.free i
theorem SlI.dat (h:SlI W b r cs ds w)(i:Nat):w.cell? ⟨W.heap.size+1,i,none⟩=ds[i]?:=h.2.2.2.2.at i
theorem SlI.dfree (h:SlI W b r cs ds w)(i:Nat):w.frozen? ⟨W.heap.size+1,i,none⟩=false:=h.2.2.2.2.free i
theorem skB_le (l:List UInt8):(skB l).length≤l.length:=by unfold skB;rw[List.length_drop];omega
theorem intA_le (l:List UInt8):(intA l).2.length≤l.length:=by
 unfold intA
 cases nrQ l with
 | none=>exact Nat.le_refl _
 | some p=>show (l.drop p.2).length≤_;rw[List.length_drop];omega
theorem SlI.skip (h:SlI W b r cs ds w):Calls Tryz.prog 54 #[.pointer (some ⟨b,0,none⟩)] w fun e w'=>e=.returned (.tuple #[])∧SlI W b (skB r) cs ds w':=by
 refine (skip_any b r w h.2.2.1.1 h.2.1).mono ?_
 rintro e w' ⟨rfl,hw⟩
 exact ⟨rfl,h.went hw (skB_le r)⟩
theorem SlI.int (h:SlI W b r cs ds w):Calls Tryz.prog 106 #[.pointer (some ⟨b,0,none⟩)] w fun e w'=>e=.returned (.tuple #[.int .i64 ((intA r).1.getD 0),.bool (intA r).1.isSome])∧SlI W b (intA r).2 cs ds w':=by
 refine (integer_any b r w h.2.2.1.1 h.2.1).mono ?_
 rintro e w' ⟨rfl,hw⟩
 exact ⟨rfl,h.went hw (intA_le r)⟩
theorem SlI.yes {c:UInt8} (h:SlI W b r cs ds w) (hc:r.head?=some c):Calls Tryz.prog 34 #[.pointer (some ⟨b,0,none⟩),.string ⟨#[c]⟩] w fun e w'=>e=.returned (.bool true)∧SlI W b r.tail cs ds w':=by
 cases r with
 | nil=>cases hc
 | cons d t =>
   obtain rfl:=Option.some.inj hc
   refine (take_yes b d t w h.2.2.1.1).mono ?_
   rintro e w' ⟨rfl,hw⟩
   exact ⟨rfl,h.went hw (by simp)⟩
theorem SlI.no {c:UInt8} (h:SlI W b r cs ds w) (hc:r.head?≠some c):Calls Tryz.prog 34 #[.pointer (some ⟨b,0,none⟩),.string ⟨#[c]⟩] w fun e w'=>e=.returned (.bool false)∧SlI W b r cs ds w':=by
 refine (take_no b c r w h.2.2.1.1 hc).mono ?_
 rintro e w' ⟨rfl,hw⟩
 exact ⟨rfl,h.went hw (Nat.le_refl _)⟩
end
def selZ:Array Value:=#[.int .i64 0,.string ⟨#[]⟩,.int .i64 0,.int .i64 0,.int .i64 0,.bool false,.bool false,.int .i64 0]
theorem SlI.start {W:World} {b:Nat} {r:List UInt8} (h:RdR W b r) (hl:r.length≤1000000) (cs ds:Array Value) :
   SlI W b r cs ds ((W.alloc (.cells cs 42)).alloc (.cells ds 42)):=by
 have hb:=(below1 W (.cells cs 42)).alloc (by simp) (.cells ds 42)
 refine ⟨h.inside,hl,Went.new h hb,(Own.fresh W 42 cs).over _,?_⟩
 have:=Own.fresh (W.alloc (.cells cs 42)) 42 ds
 rwa [show (W.alloc (.cells cs 42)).heap.size=W.heap.size+1 by simp] at this
theorem slice_no (b:Nat) (l r2 r3:List UInt8) (W:World) (h:RdR W b l) (hl:l.length≤1000000) (a:Option Int) (ev:Int) (hv:Bool) (h2:(intA (skB l)).2=r2) (hev:(intA (skB l)).1.getD 0=ev) (hhv:(intA (skB l)).1.isSome=hv) (h3:skB r2=r3) (h58:r3.head?≠some 58) :
   Calls Tryz.prog 107 #[.pointer (some ⟨b,0,none⟩),.agg #[.int .i64 3,.string ⟨#[]⟩,.int .i64 0,.int .i64 (a.getD 0),.int .i64 0,.bool a.isSome,.bool false,.int .i64 0]] W fun e w'=>e=.returned (.agg #[.int .i64 3,.string ⟨#[]⟩,.int .i64 0,.int .i64 (a.getD 0),.int .i64 ev,.bool a.isSome,.bool hv,.int .i64 1])∧Went W b r3 w':=by
 have H0:=hid (SlI.start h hl #[.int .i64 3,.string ⟨#[]⟩,.int .i64 0,.int .i64 (a.getD 0),.int .i64 0,.bool a.isSome,.bool false,.int .i64 1] selZ)
 unfold selZ at H0
 clear h hl
 go_enter Tryz.func107,Tryz.ntmps107
 go_wp2_with (first
   | (go_at_call 54;with_reducible refine (SlI.skip H0.out).mono ?_
      go_must (
        rintro e w1 ⟨rfl,i1⟩
        have H1:=hid i1
        clear i1))
   | (go_at_call 106;with_reducible refine (SlI.int H1.out).mono ?_
      go_must (
        rintro e w2 ⟨rfl,i2⟩
        rw[h2] at i2
        have c4:w2.cell? ⟨W.heap.size,4,none⟩=some (.int .i64 0):=i2.at 4
        have cf4:=i2.free 4
        have c6:w2.cell? ⟨W.heap.size,6,none⟩=some (.bool false):=i2.at 6
        have cf6:=i2.free 6
        have i3:SlI W b r2 #[.int .i64 3,.string ⟨#[]⟩,.int .i64 0,.int .i64 (a.getD 0),.int .i64 ev,.bool a.isSome,.bool hv,.int .i64 1] #[.int .i64 0,.string ⟨#[]⟩,.int .i64 0,.int .i64 0,.int .i64 0,.bool false,.bool false,.int .i64 0] ((w2.setCell ⟨W.heap.size,4,none⟩ (.int .i64 ev)).setCell ⟨W.heap.size,6,none⟩ (.bool hv)):=by simpa using (i2.put 4 (.int .i64 ev)).put 6 (.bool hv)
        rw[hev,hhv]
        have H3:=hid i3
        clear i2 i3))
   | (go_at_call 54;with_reducible refine (SlI.skip H3.out).mono ?_
      go_must (
        rintro e w4 ⟨rfl,i4⟩
        rw[h3] at i4
        have H4:=hid i4
        clear i4))
   | (go_at_call 34;with_reducible refine (SlI.no H4.out h58).mono ?_
      go_must (
        rintro e w5 ⟨rfl,i5⟩
        have c0:w5.cell? ⟨W.heap.size,0,none⟩=some (.int .i64 3):=i5.at 0
        have cf0:=i5.free 0
        have c1:w5.cell? ⟨W.heap.size,1,none⟩=some (.string ⟨#[]⟩):=i5.at 1
        have cf1:=i5.free 1
        have c2:w5.cell? ⟨W.heap.size,2,none⟩=some (.int .i64 0):=i5.at 2
        have cf2:=i5.free 2
        have c3:w5.cell? ⟨W.heap.size,3,none⟩=some (.int .i64 (a.getD 0)):=i5.at 3
        have cf3:=i5.free 3
        have c4:w5.cell? ⟨W.heap.size,4,none⟩=some (.int .i64 ev):=i5.at 4
        have cf4:=i5.free 4
        have c5:w5.cell? ⟨W.heap.size,5,none⟩=some (.bool a.isSome):=i5.at 5
        have cf5:=i5.free 5
        have c6:w5.cell? ⟨W.heap.size,6,none⟩=some (.bool hv):=i5.at 6
        have cf6:=i5.free 6
        have c7:w5.cell? ⟨W.heap.size,7,none⟩=some (.int .i64 1):=i5.at 7
        have cf7:=i5.free 7
        have d0:w5.cell? ⟨W.heap.size+1,0,none⟩=some (.int .i64 0):=i5.dat 0
        have df0:=i5.dfree 0
        have d1:w5.cell? ⟨W.heap.size+1,1,none⟩=some (.string ⟨#[]⟩):=i5.dat 1
        have df1:=i5.dfree 1
        have d2:w5.cell? ⟨W.heap.size+1,2,none⟩=some (.int .i64 0):=i5.dat 2
        have df2:=i5.dfree 2
        have d3:w5.cell? ⟨W.heap.size+1,3,none⟩=some (.int .i64 0):=i5.dat 3
        have df3:=i5.dfree 3
        have d4:w5.cell? ⟨W.heap.size+1,4,none⟩=some (.int .i64 0):=i5.dat 4
        have df4:=i5.dfree 4
        have d5:w5.cell? ⟨W.heap.size+1,5,none⟩=some (.bool false):=i5.dat 5
        have df5:=i5.dfree 5
        have d6:w5.cell? ⟨W.heap.size+1,6,none⟩=some (.bool false):=i5.dat 6
        have df6:=i5.dfree 6
        have d7:w5.cell? ⟨W.heap.size+1,7,none⟩=some (.int .i64 0):=i5.dat 7
        have df7:=i5.dfree 7
        have H5:=hid i5
        clear i5)))
 have HF:=((((((((H5.out).res 0 (.int .i64 3)).res 1 (.string ⟨#[]⟩)).res 2 (.int .i64 0)).res 3 (.int .i64 (a.getD 0))).res 4 (.int .i64 ev)).res 5 (.bool a.isSome)).res 6 (.bool hv)).res 7 (.int .i64 1)
 simp at HF
 have g0:=HF.dat 0;have g1:=HF.dat 1;have g2:=HF.dat 2;have g3:=HF.dat 3;have g4:=HF.dat 4;have g5:=HF.dat 5;have g6:=HF.dat 6;have g7:=HF.dat 7
 simp at g0 g1 g2 g3 g4 g5 g6 g7
 refine bodyPost_ret (by simp[results,Tryz.results107,go_sem,g0,g1,g2,g3,g4,g5,g6,g7];try rfl) rfl ?_
 exact ⟨rfl,HF.2.2.1⟩
theorem slice_two (b:Nat) (l r2 r3 r4:List UInt8) (W:World) (h:RdR W b l) (hl:l.length≤1000000) (a:Option Int) (ev:Int) (hv:Bool) (h2:(intA (skB l)).2=r2) (hev:(intA (skB l)).1.getD 0=ev) (hhv:(intA (skB l)).1.isSome=hv) (h3:skB r2=r3) (h58:r3.head?=some 58) (h4:skB r3.tail=r4) (hn:nrQ r4=none) :
   Calls Tryz.prog 107 #[.pointer (some ⟨b,0,none⟩),.agg #[.int .i64 3,.string ⟨#[]⟩,.int .i64 0,.int .i64 (a.getD 0),.int .i64 0,.bool a.isSome,.bool false,.int .i64 0]] W fun e w'=>e=.returned (.agg #[.int .i64 3,.string ⟨#[]⟩,.int .i64 0,.int .i64 (a.getD 0),.int .i64 ev,.bool a.isSome,.bool hv,.int .i64 1])∧Went W b r4 w':=by
 have H0:=hid (SlI.start h hl #[.int .i64 3,.string ⟨#[]⟩,.int .i64 0,.int .i64 (a.getD 0),.int .i64 0,.bool a.isSome,.bool false,.int .i64 1] selZ)
 unfold selZ at H0
 clear h hl
 go_enter Tryz.func107,Tryz.ntmps107
 go_wp2_with (first
   | (go_at_call 54;with_reducible refine (SlI.skip H0.out).mono ?_
      go_must (
        rintro e w1 ⟨rfl,i1⟩
        have H1:=hid i1
        clear i1))
   | (go_at_call 106;with_reducible refine (SlI.int H1.out).mono ?_
      go_must (
        rintro e w2 ⟨rfl,i2⟩
        rw[h2] at i2
        have c4:w2.cell? ⟨W.heap.size,4,none⟩=some (.int .i64 0):=i2.at 4
        have cf4:=i2.free 4
        have c6:w2.cell? ⟨W.heap.size,6,none⟩=some (.bool false):=i2.at 6
        have cf6:=i2.free 6
        have i3:SlI W b r2 #[.int .i64 3,.string ⟨#[]⟩,.int .i64 0,.int .i64 (a.getD 0),.int .i64 ev,.bool a.isSome,.bool hv,.int .i64 1] #[.int .i64 0,.string ⟨#[]⟩,.int .i64 0,.int .i64 0,.int .i64 0,.bool false,.bool false,.int .i64 0] ((w2.setCell ⟨W.heap.size,4,none⟩ (.int .i64 ev)).setCell ⟨W.heap.size,6,none⟩ (.bool hv)):=by simpa using (i2.put 4 (.int .i64 ev)).put 6 (.bool hv)
        rw[hev,hhv]
        have H3:=hid i3
        clear i2 i3))
   | (go_at_call 54;with_reducible refine (SlI.skip H3.out).mono ?_
      go_must (
        rintro e w4 ⟨rfl,i4⟩
        rw[h3] at i4
        have H4:=hid i4
        clear i4))
   | (go_at_call 34;with_reducible refine (SlI.yes H4.out h58).mono ?_
      go_must (
        rintro e w5 ⟨rfl,i5⟩
        have H5:=hid i5
        clear i5))
   | (go_at_call 54;with_reducible refine (SlI.skip H5.out).mono ?_
      go_must (
        rintro e w6 ⟨rfl,i6⟩
        rw[h4] at i6
        have H6:=hid i6
        clear i6))
   | (go_at_call 106;with_reducible refine (SlI.int H6.out).mono ?_
      go_must (
        rintro e w7 ⟨rfl,i7⟩
        rw[intA_no hn] at i7 ⊢
        have c0:w7.cell? ⟨W.heap.size,0,none⟩=some (.int .i64 3):=i7.at 0
        have cf0:=i7.free 0
        have c1:w7.cell? ⟨W.heap.size,1,none⟩=some (.string ⟨#[]⟩):=i7.at 1
        have cf1:=i7.free 1
        have c2:w7.cell? ⟨W.heap.size,2,none⟩=some (.int .i64 0):=i7.at 2
        have cf2:=i7.free 2
        have c3:w7.cell? ⟨W.heap.size,3,none⟩=some (.int .i64 (a.getD 0)):=i7.at 3
        have cf3:=i7.free 3
        have c4:w7.cell? ⟨W.heap.size,4,none⟩=some (.int .i64 ev):=i7.at 4
        have cf4:=i7.free 4
        have c5:w7.cell? ⟨W.heap.size,5,none⟩=some (.bool a.isSome):=i7.at 5
        have cf5:=i7.free 5
        have c6:w7.cell? ⟨W.heap.size,6,none⟩=some (.bool hv):=i7.at 6
        have cf6:=i7.free 6
        have c7:w7.cell? ⟨W.heap.size,7,none⟩=some (.int .i64 1):=i7.at 7
        have cf7:=i7.free 7
        have d0:w7.cell? ⟨W.heap.size+1,0,none⟩=some (.int .i64 0):=i7.dat 0
        have df0:=i7.dfree 0
        have d1:w7.cell? ⟨W.heap.size+1,1,none⟩=some (.string ⟨#[]⟩):=i7.dat 1
        have df1:=i7.dfree 1
        have d2:w7.cell? ⟨W.heap.size+1,2,none⟩=some (.int .i64 0):=i7.dat 2
        have df2:=i7.dfree 2
        have d3:w7.cell? ⟨W.heap.size+1,3,none⟩=some (.int .i64 0):=i7.dat 3
        have df3:=i7.dfree 3
        have d4:w7.cell? ⟨W.heap.size+1,4,none⟩=some (.int .i64 0):=i7.dat 4
        have df4:=i7.dfree 4
        have d5:w7.cell? ⟨W.heap.size+1,5,none⟩=some (.bool false):=i7.dat 5
        have df5:=i7.dfree 5
        have d6:w7.cell? ⟨W.heap.size+1,6,none⟩=some (.bool false):=i7.dat 6
        have df6:=i7.dfree 6
        have d7:w7.cell? ⟨W.heap.size+1,7,none⟩=some (.int .i64 0):=i7.dat 7
        have df7:=i7.dfree 7
        have H7:=hid i7
        clear i7)))
 have HF:=((((((((H7.out).res 0 (.int .i64 3)).res 1 (.string ⟨#[]⟩)).res 2 (.int .i64 0)).res 3 (.int .i64 (a.getD 0))).res 4 (.int .i64 ev)).res 5 (.bool a.isSome)).res 6 (.bool hv)).res 7 (.int .i64 1)
 simp at HF
 have g0:=HF.dat 0;have g1:=HF.dat 1;have g2:=HF.dat 2;have g3:=HF.dat 3;have g4:=HF.dat 4;have g5:=HF.dat 5;have g6:=HF.dat 6;have g7:=HF.dat 7
 simp at g0 g1 g2 g3 g4 g5 g6 g7
 refine bodyPost_ret (by simp[results,Tryz.results107,go_sem,g0,g1,g2,g3,g4,g5,g6,g7];try rfl) rfl ?_
 exact ⟨rfl,HF.2.2.1⟩
theorem slice_three (b:Nat) (l r2 r3 r4:List UInt8) (W:World) (h:RdR W b l) (hl:l.length≤1000000) (a:Option Int) (ev:Int) (hv:Bool) (h2:(intA (skB l)).2=r2) (hev:(intA (skB l)).1.getD 0=ev) (hhv:(intA (skB l)).1.isSome=hv) (h3:skB r2=r3) (h58:r3.head?=some 58) (h4:skB r3.tail=r4) (sv:Int) (n:Nat) (hn:nrQ r4=some (sv,n)) :
   Calls Tryz.prog 107 #[.pointer (some ⟨b,0,none⟩),.agg #[.int .i64 3,.string ⟨#[]⟩,.int .i64 0,.int .i64 (a.getD 0),.int .i64 0,.bool a.isSome,.bool false,.int .i64 0]] W fun e w'=>e=.returned (.agg #[.int .i64 3,.string ⟨#[]⟩,.int .i64 0,.int .i64 (a.getD 0),.int .i64 ev,.bool a.isSome,.bool hv,.int .i64 sv])∧Went W b (r4.drop n) w':=by
 have H0:=hid (SlI.start h hl #[.int .i64 3,.string ⟨#[]⟩,.int .i64 0,.int .i64 (a.getD 0),.int .i64 0,.bool a.isSome,.bool false,.int .i64 1] selZ)
 unfold selZ at H0
 clear h hl
 go_enter Tryz.func107,Tryz.ntmps107
 go_wp2_with (first
   | (go_at_call 54;with_reducible refine (SlI.skip H0.out).mono ?_
      go_must (
        rintro e w1 ⟨rfl,i1⟩
        have H1:=hid i1
        clear i1))
   | (go_at_call 106;with_reducible refine (SlI.int H1.out).mono ?_
      go_must (
        rintro e w2 ⟨rfl,i2⟩
        rw[h2] at i2
        have c4:w2.cell? ⟨W.heap.size,4,none⟩=some (.int .i64 0):=i2.at 4
        have cf4:=i2.free 4
        have c6:w2.cell? ⟨W.heap.size,6,none⟩=some (.bool false):=i2.at 6
        have cf6:=i2.free 6
        have i3:SlI W b r2 #[.int .i64 3,.string ⟨#[]⟩,.int .i64 0,.int .i64 (a.getD 0),.int .i64 ev,.bool a.isSome,.bool hv,.int .i64 1] #[.int .i64 0,.string ⟨#[]⟩,.int .i64 0,.int .i64 0,.int .i64 0,.bool false,.bool false,.int .i64 0] ((w2.setCell ⟨W.heap.size,4,none⟩ (.int .i64 ev)).setCell ⟨W.heap.size,6,none⟩ (.bool hv)):=by simpa using (i2.put 4 (.int .i64 ev)).put 6 (.bool hv)
        rw[hev,hhv]
        have H3:=hid i3
        clear i2 i3))
   | (go_at_call 54;with_reducible refine (SlI.skip H3.out).mono ?_
      go_must (
        rintro e w4 ⟨rfl,i4⟩
        rw[h3] at i4
        have H4:=hid i4
        clear i4))
   | (go_at_call 34;with_reducible refine (SlI.yes H4.out h58).mono ?_
      go_must (
        rintro e w5 ⟨rfl,i5⟩
        have H5:=hid i5
        clear i5))
   | (go_at_call 54;with_reducible refine (SlI.skip H5.out).mono ?_
      go_must (
        rintro e w6 ⟨rfl,i6⟩
        rw[h4] at i6
        have H6:=hid i6
        clear i6))
   | (go_at_call 106;with_reducible refine (SlI.int H6.out).mono ?_
      go_must (
        rintro e w7 ⟨rfl,i7⟩
        rw[intA_yes hn] at i7 ⊢
        have c0:w7.cell? ⟨W.heap.size,0,none⟩=some (.int .i64 3):=i7.at 0
        have cf0:=i7.free 0
        have c1:w7.cell? ⟨W.heap.size,1,none⟩=some (.string ⟨#[]⟩):=i7.at 1
        have cf1:=i7.free 1
        have c2:w7.cell? ⟨W.heap.size,2,none⟩=some (.int .i64 0):=i7.at 2
        have cf2:=i7.free 2
        have c3:w7.cell? ⟨W.heap.size,3,none⟩=some (.int .i64 (a.getD 0)):=i7.at 3
        have cf3:=i7.free 3
        have c4:w7.cell? ⟨W.heap.size,4,none⟩=some (.int .i64 ev):=i7.at 4
        have cf4:=i7.free 4
        have c5:w7.cell? ⟨W.heap.size,5,none⟩=some (.bool a.isSome):=i7.at 5
        have cf5:=i7.free 5
        have c6:w7.cell? ⟨W.heap.size,6,none⟩=some (.bool hv):=i7.at 6
        have cf6:=i7.free 6
        have c7:w7.cell? ⟨W.heap.size,7,none⟩=some (.int .i64 1):=i7.at 7
        have cf7:=i7.free 7
        have d0:w7.cell? ⟨W.heap.size+1,0,none⟩=some (.int .i64 0):=i7.dat 0
        have df0:=i7.dfree 0
        have d1:w7.cell? ⟨W.heap.size+1,1,none⟩=some (.string ⟨#[]⟩):=i7.dat 1
        have df1:=i7.dfree 1
        have d2:w7.cell? ⟨W.heap.size+1,2,none⟩=some (.int .i64 0):=i7.dat 2
        have df2:=i7.dfree 2
        have d3:w7.cell? ⟨W.heap.size+1,3,none⟩=some (.int .i64 0):=i7.dat 3
        have df3:=i7.dfree 3
        have d4:w7.cell? ⟨W.heap.size+1,4,none⟩=some (.int .i64 0):=i7.dat 4
        have df4:=i7.dfree 4
        have d5:w7.cell? ⟨W.heap.size+1,5,none⟩=some (.bool false):=i7.dat 5
        have df5:=i7.dfree 5
        have d6:w7.cell? ⟨W.heap.size+1,6,none⟩=some (.bool false):=i7.dat 6
        have df6:=i7.dfree 6
        have d7:w7.cell? ⟨W.heap.size+1,7,none⟩=some (.int .i64 0):=i7.dat 7
        have df7:=i7.dfree 7
        have i8:SlI W b (r4.drop n) #[.int .i64 3,.string ⟨#[]⟩,.int .i64 0,.int .i64 (a.getD 0),.int .i64 ev,.bool a.isSome,.bool hv,.int .i64 sv] #[.int .i64 0,.string ⟨#[]⟩,.int .i64 0,.int .i64 0,.int .i64 0,.bool false,.bool false,.int .i64 0] (w7.setCell ⟨W.heap.size,7,none⟩ (.int .i64 sv)):=by simpa using i7.put 7 (.int .i64 sv)
        have H8:=hid i8
        clear i7 i8)))
 have HF:=((((((((H8.out).res 0 (.int .i64 3)).res 1 (.string ⟨#[]⟩)).res 2 (.int .i64 0)).res 3 (.int .i64 (a.getD 0))).res 4 (.int .i64 ev)).res 5 (.bool a.isSome)).res 6 (.bool hv)).res 7 (.int .i64 sv)
 simp at HF
 have g0:=HF.dat 0;have g1:=HF.dat 1;have g2:=HF.dat 2;have g3:=HF.dat 3;have g4:=HF.dat 4;have g5:=HF.dat 5;have g6:=HF.dat 6;have g7:=HF.dat 7
 simp at g0 g1 g2 g3 g4 g5 g6 g7
 refine bodyPost_ret (by simp[results,Tryz.results107,go_sem,g0,g1,g2,g3,g4,g5,g6,g7];try rfl) rfl ?_
 exact ⟨rfl,HF.2.2.1⟩
theorem sl_case (b:Nat) (l:List UInt8) (W:World) (h:RdR W b l) (hl:l.length≤1000000) (a:Option Int) :
   Calls Tryz.prog 107 #[.pointer (some ⟨b,0,none⟩),.agg #[.int .i64 3,.string ⟨#[]⟩,.int .i64 0,.int .i64 (a.getD 0),.int .i64 0,.bool a.isSome,.bool false,.int .i64 0]] W fun e w'=>e=.returned (.agg #[.int .i64 (slcR a l).1.kind,.string (slcR a l).1.name,.int .i64 (slcR a l).1.index,.int .i64 (slcR a l).1.start,.int .i64 (slcR a l).1.en,.bool (slcR a l).1.hs,.bool (slcR a l).1.he,.int .i64 (slcR a l).1.stride])∧Went W b (slcR a l).2 w':=by
 unfold slcR slcE
 by_cases h58:(skB (intA (skB l)).2).head?=some 58
 ·rw[if_pos h58]
  cases hn:nrQ (skB (skB (intA (skB l)).2).tail) with
  | none=>exact slice_two b l _ _ _ W h hl a _ _ rfl rfl rfl rfl h58 rfl hn
  | some p=>exact slice_three b l _ _ _ W h hl a _ _ rfl rfl rfl rfl h58 rfl p.1 p.2 hn
 ·rw[if_neg h58]
  exact slice_no b l _ _ W h hl a _ _ rfl rfl rfl rfl h58
end
section
open Go.RowKit
def SeI (W:World) (b:Nat) (r:List UInt8) (ds:Array Value) (w:World):Prop :=
 b<W.heap.size∧r.length≤1000000∧Went W b r w∧Own w W.heap.size 42 ds
section
variable {W w w':World} {b:Nat} {r r':List UInt8} {ds:Array Value}
theorem SeI.went (h:SeI W b r ds w) (hw:Went w b r' w') (hl:r'.length≤r.length):SeI W b r' ds w' :=
 ⟨h.1,Nat.le_trans hl h.2.1,h.2.2.1.trans hw,Own.turned h.2.2.2 hw.2 (by have:=h.1;omega)⟩
theorem SeI.res (h:SeI W b r ds w) (i:Nat) (u:Value):SeI W b r (ds.setIfInBounds i u) (w.setCell ⟨W.heap.size,i,none⟩ u) :=
 ⟨h.1,h.2.1,⟨h.2.2.1.1.past (by have:=h.1;show b≠W.heap.size;omega) u,by
   have t:=h.2.2.1.2
   refine ⟨t.1,t.2.1,t.2.2.1,by simpa [World.setCell] using t.2.2.2.1,fun k hk hne=>(Below.heap_setCell w ⟨W.heap.size,i,none⟩ u k (by show k≠W.heap.size;omega)).trans (t.2.2.2.2 k hk hne)⟩⟩,Own.put h.2.2.2 i u⟩
theorem SeI.dat (h:SeI W b r ds w)(i:Nat):w.cell? ⟨W.heap.size,i,none⟩=ds[i]?:=h.2.2.2.at i
theorem SeI.dfree (h:SeI W b r ds w)(i:Nat):w.frozen? ⟨W.heap.size,i,none⟩=false:=h.2.2.2.free i
theorem SeI.skip (h:SeI W b r ds w):Calls Tryz.prog 54 #[.pointer (some ⟨b,0,none⟩)] w fun e w'=>e=.returned (.tuple #[])∧SeI W b (skB r) ds w':=by
 refine (skip_any b r w h.2.2.1.1 h.2.1).mono ?_
 rintro e w' ⟨rfl,hw⟩
 exact ⟨rfl,h.went hw (skB_le r)⟩
theorem SeI.int (h:SeI W b r ds w):Calls Tryz.prog 106 #[.pointer (some ⟨b,0,none⟩)] w fun e w'=>e=.returned (.tuple #[.int .i64 ((intA r).1.getD 0),.bool (intA r).1.isSome])∧SeI W b (intA r).2 ds w':=by
 refine (integer_any b r w h.2.2.1.1 h.2.1).mono ?_
 rintro e w' ⟨rfl,hw⟩
 exact ⟨rfl,h.went hw (intA_le r)⟩
theorem SeI.yes {c:UInt8} (h:SeI W b r ds w) (hc:r.head?=some c):Calls Tryz.prog 34 #[.pointer (some ⟨b,0,none⟩),.string ⟨#[c]⟩] w fun e w'=>e=.returned (.bool true)∧SeI W b r.tail ds w':=by
 cases r with
 | nil=>cases hc
 | cons d t =>
   obtain rfl:=Option.some.inj hc
   refine (take_yes b d t w h.2.2.1.1).mono ?_
   rintro e w' ⟨rfl,hw⟩
   exact ⟨rfl,h.went hw (by simp)⟩
theorem SeI.no {c:UInt8} (h:SeI W b r ds w) (hc:r.head?≠some c):Calls Tryz.prog 34 #[.pointer (some ⟨b,0,none⟩),.string ⟨#[c]⟩] w fun e w'=>e=.returned (.bool false)∧SeI W b r ds w':=by
 refine (take_no b c r w h.2.2.1.1 hc).mono ?_
 rintro e w' ⟨rfl,hw⟩
 exact ⟨rfl,h.went hw (Nat.le_refl _)⟩
theorem SeI.slice (h:SeI W b r ds w) (a:Option Int):Calls Tryz.prog 107 #[.pointer (some ⟨b,0,none⟩),.agg #[.int .i64 3,.string ⟨#[]⟩,.int .i64 0,.int .i64 (a.getD 0),.int .i64 0,.bool a.isSome,.bool false,.int .i64 0]] w fun e w'=>e=.returned (.agg #[.int .i64 (slcR a r).1.kind,.string (slcR a r).1.name,.int .i64 (slcR a r).1.index,.int .i64 (slcR a r).1.start,.int .i64 (slcR a r).1.en,.bool (slcR a r).1.hs,.bool (slcR a r).1.he,.int .i64 (slcR a r).1.stride])∧SeI W b (slcR a r).2 ds w':=by
 refine (sl_case b r w h.2.2.1.1 h.2.1 a).mono ?_
 rintro e w' ⟨rfl,hw⟩
 refine ⟨rfl,h.went hw ?_⟩
 unfold slcR slcE
 have l1:=skB_le r
 have l2:=intA_le (skB r)
 have l3:=skB_le (intA (skB r)).2
 have l4:=skB_le (skB (intA (skB r)).2).tail
 split
 ·have l5:(skB (intA (skB r)).2).tail.length≤(skB (intA (skB r)).2).length:=by simp
  split
  ·show (List.drop _ _).length≤_
   rw[List.length_drop];omega
  ·show (skB _).length≤_
   omega
 ·show (skB _).length≤_
  omega
def SeNm (W:World) (b:Nat) (o:Option (List UInt8×List UInt8)) (ds:Array Value) (nm:ByteArray) (ok:Bool) (w:World):Prop :=
 ∃ r,Went W b r w∧Own w W.heap.size 42 ds∧match o with
   | none=>ok=false
   | some (u,r')=>ok=true∧nm=⟨u.toArray⟩∧r=r'
theorem SeI.name {e:Ending} {o:Option (List UInt8×List UInt8)} (h:SeI W b r ds w) (hn:NmEnd o b w e w'):∃ nm ok,e=.returned (.tuple #[.string nm,.bool ok])∧SeNm W b o ds nm ok w':=by
 obtain ⟨nm,ok,r',rfl,hw,hm⟩:=hn
 exact ⟨nm,ok,rfl,r',h.2.2.1.trans hw,Own.turned h.2.2.2 hw.2 (by have:=h.1;omega),hm⟩
end
theorem SeI.single {W w:World} {b:Nat} {r:List UInt8} {ds:Array Value} (h:SeI W b r ds w):Calls Tryz.prog 104 #[.pointer (some ⟨b,0,none⟩)] w fun e w' => ∃ nm ok,e=.returned (.tuple #[.string nm,.bool ok])∧SeNm W b (sngR r) ds nm ok w' :=
 (single_any b r w h.2.2.1.1 h.2.1).mono fun e w' hn=>SeI.name h hn
theorem SeI.double {W w:World} {b:Nat} {r:List UInt8} {ds:Array Value} (h:SeI W b r ds w):Calls Tryz.prog 105 #[.pointer (some ⟨b,0,none⟩)] w fun e w' => ∃ nm ok,e=.returned (.tuple #[.string nm,.bool ok])∧SeNm W b (dblR r) ds nm ok w' :=
 (double_any b r w h.2.2.1.1 h.2.1).mono fun e w' hn=>SeI.name h hn
theorem selR_on (l:List UInt8):selR l=if l.head?=some 42 then some (sqA,l.tail)
 else if l.head?=some 39 then (sngR l.tail).map fun p=>(sqN p.1,p.2)
 else if l.head?=some 34 then (dblR l.tail).map fun p=>(sqN p.1,p.2)
 else if (skB (intA l).2).head?=some 58 then some (slcR (intA l).1 (skB (intA l).2).tail)
 else (intA l).1.map fun v=>(sqI v,skB (intA l).2):=rfl
theorem SeI.start {W:World} {b:Nat} {r:List UInt8} (h:RdR W b r) (hl:r.length≤1000000) (ds:Array Value):SeI W b r ds (W.alloc (.cells ds 42)) :=
 ⟨h.inside,hl,Went.new h (below1 W _),Own.fresh W 42 ds⟩
def SelEndQ (l:List UInt8) (b:Nat) (W:World) (e:Ending) (w':World):Prop :=
 ∃ (x:Sel) (ok:Bool) (r:List UInt8),e=.returned (.tuple #[.agg #[.int .i64 x.kind,.string x.name,.int .i64 x.index,.int .i64 x.start,.int .i64 x.en,.bool x.hs,.bool x.he,.int .i64 x.stride],.bool ok])∧Went W b r w'∧match selR l with
   | none=>ok=false
   | some (x',r')=>ok=true∧x=x'∧r=r'
theorem SelEndQ.yes {l r:List UInt8} {b:Nat} {W w':World} {e:Ending} (x:Sel) (he:e=.returned (.tuple #[.agg #[.int .i64 x.kind,.string x.name,.int .i64 x.index,.int .i64 x.start,.int .i64 x.en,.bool x.hs,.bool x.he,.int .i64 x.stride],.bool true])) (hw:Went W b r w') (h:selR l=some (x,r)):SelEndQ l b W e w' :=
 ⟨x,true,r,he,hw,by rw[h];exact ⟨rfl,rfl,rfl⟩⟩
theorem SelEndQ.nm {l r:List UInt8} {b:Nat} {W w':World} {e:Ending} {o:Option (List UInt8×List UInt8)} {nm:ByteArray} {ok:Bool} (he:e=.returned (.tuple #[.agg #[.int .i64 0,.string nm,.int .i64 0,.int .i64 0,.int .i64 0,.bool false,.bool false,.int .i64 0],.bool ok])) (hw:Went W b r w')
   (hm:match o with|none=>ok=false|some (u,r')=>ok=true∧nm=⟨u.toArray⟩∧r=r') (h:selR l=o.map fun p=>(sqN p.1,p.2)):SelEndQ l b W e w':=by
 refine ⟨⟨0,nm,0,0,0,false,false,0⟩,ok,r,he,hw,?_⟩
 rw[h]
 cases o with
 | none=>exact hm
 | some p=>obtain ⟨h1,h2,h3⟩:=hm;exact ⟨h1,by rw[h2];rfl,h3⟩
theorem selr_all (b:Nat) (l:List UInt8) (W:World) (h:RdR W b l) (hl:l.length≤1000000) (h42:l.head?=some 42) :
   Calls Tryz.prog 83 #[.pointer (some ⟨b,0,none⟩)] W (SelEndQ l b W):=by
 have H0:=hid (SeI.start h hl selZ)
 have hs:=selR_on l
 unfold selZ at H0
 rw[if_pos h42] at hs
 have HS:=hid hs
 clear hs
 clear h hl
 go_enter Tryz.func83,Tryz.ntmps83
 go_wp2_with (first
   | (go_at_call 34;with_reducible refine (SeI.yes H0.out h42).mono ?_
      go_must (
        rintro e w1 ⟨rfl,i1⟩
        have d0:w1.cell? ⟨W.heap.size,0,none⟩=some (.int .i64 0):=i1.dat 0
        have df0:=i1.dfree 0
        have d1:w1.cell? ⟨W.heap.size,1,none⟩=some (.string ⟨#[]⟩):=i1.dat 1
        have df1:=i1.dfree 1
        have d2:w1.cell? ⟨W.heap.size,2,none⟩=some (.int .i64 0):=i1.dat 2
        have df2:=i1.dfree 2
        have d3:w1.cell? ⟨W.heap.size,3,none⟩=some (.int .i64 0):=i1.dat 3
        have df3:=i1.dfree 3
        have d4:w1.cell? ⟨W.heap.size,4,none⟩=some (.int .i64 0):=i1.dat 4
        have df4:=i1.dfree 4
        have d5:w1.cell? ⟨W.heap.size,5,none⟩=some (.bool false):=i1.dat 5
        have df5:=i1.dfree 5
        have d6:w1.cell? ⟨W.heap.size,6,none⟩=some (.bool false):=i1.dat 6
        have df6:=i1.dfree 6
        have d7:w1.cell? ⟨W.heap.size,7,none⟩=some (.int .i64 0):=i1.dat 7
        have df7:=i1.dfree 7
        have H1:=hid i1
        clear i1)))
 have HF:=((((((((H1.out).res 0 (.int .i64 1)).res 1 (.string ⟨#[]⟩)).res 2 (.int .i64 0)).res 3 (.int .i64 0)).res 4 (.int .i64 0)).res 5 (.bool false)).res 6 (.bool false)).res 7 (.int .i64 0)
 simp at HF
 have g0:=HF.dat 0;have g1:=HF.dat 1;have g2:=HF.dat 2;have g3:=HF.dat 3;have g4:=HF.dat 4;have g5:=HF.dat 5;have g6:=HF.dat 6;have g7:=HF.dat 7
 simp at g0 g1 g2 g3 g4 g5 g6 g7
 refine bodyPost_ret (by simp[results,Tryz.results83,go_sem,g0,g1,g2,g3,g4,g5,g6,g7];try rfl) rfl ?_
 exact SelEndQ.yes sqA rfl HF.2.2.1 HS.out
theorem setw {W w:World} {b:Nat} {r:List UInt8} (h:Went W b r w) (hb:b<W.heap.size) (i:Nat) (u:Value):Went W b r (w.setCell ⟨W.heap.size,i,none⟩ u) :=
 ⟨h.1.past (by show b≠W.heap.size;omega) u,by
   have t:=h.2
   refine ⟨t.1,t.2.1,t.2.2.1,by simpa [World.setCell] using t.2.2.2.1,fun k hk hne=>(Below.heap_setCell w ⟨W.heap.size,i,none⟩ u k (by show k≠W.heap.size;omega)).trans (t.2.2.2.2 k hk hne)⟩⟩
theorem selr_single (b:Nat) (l:List UInt8) (W:World) (h:RdR W b l) (hl:l.length≤1000000) (h42:l.head?≠some 42) (h39:l.head?=some 39) :
   Calls Tryz.prog 83 #[.pointer (some ⟨b,0,none⟩)] W (SelEndQ l b W):=by
 have H0:=hid (SeI.start h hl selZ)
 have hs:=selR_on l
 unfold selZ at H0
 rw[if_neg h42,if_pos h39] at hs
 have HB:=h.inside
 have HS:=hid hs
 clear hs
 clear h hl
 go_enter Tryz.func83,Tryz.ntmps83
 go_wp2_with (first
   | (go_at_call 34;with_reducible refine (SeI.no H0.out h42).mono ?_
      go_must (
        rintro e w1 ⟨rfl,i1⟩
        have H1:=hid i1
        clear i1))
   | (go_at_call 34;with_reducible refine (SeI.yes H1.out h39).mono ?_
      go_must (
        rintro e w2 ⟨rfl,i2⟩
        have H2:=hid i2
        clear i2))
   | (go_at_call 104;with_reducible refine (SeI.single H2.out).mono ?_
      go_must (
        rintro e w3 ⟨nm,ok,rfl,hs8⟩
        have ho8:=hs8.elim fun _ h=>h.2.1
        have d0:w3.cell? ⟨W.heap.size,0,none⟩=some (.int .i64 0):=ho8.at 0
        have df0:=ho8.free 0
        have d1:w3.cell? ⟨W.heap.size,1,none⟩=some (.string ⟨#[]⟩):=ho8.at 1
        have df1:=ho8.free 1
        have d2:w3.cell? ⟨W.heap.size,2,none⟩=some (.int .i64 0):=ho8.at 2
        have df2:=ho8.free 2
        have d3:w3.cell? ⟨W.heap.size,3,none⟩=some (.int .i64 0):=ho8.at 3
        have df3:=ho8.free 3
        have d4:w3.cell? ⟨W.heap.size,4,none⟩=some (.int .i64 0):=ho8.at 4
        have df4:=ho8.free 4
        have d5:w3.cell? ⟨W.heap.size,5,none⟩=some (.bool false):=ho8.at 5
        have df5:=ho8.free 5
        have d6:w3.cell? ⟨W.heap.size,6,none⟩=some (.bool false):=ho8.at 6
        have df6:=ho8.free 6
        have d7:w3.cell? ⟨W.heap.size,7,none⟩=some (.int .i64 0):=ho8.at 7
        have df7:=ho8.free 7
        have H3:=hid hs8
        clear hs8 ho8)))
 obtain ⟨r9,hw9,ho9,hm9⟩:=H3.out
 have ho:=((((((((ho9.put 0 (.int .i64 0)).put 1 (.string nm)).put 2 (.int .i64 0)).put 3 (.int .i64 0)).put 4 (.int .i64 0)).put 5 (.bool false)).put 6 (.bool false)).put 7 (.int .i64 0))
 have hw:=setw (setw (setw (setw (setw (setw (setw (setw hw9 HB 0 (.int .i64 0)) HB 1 (.string nm)) HB 2 (.int .i64 0)) HB 3 (.int .i64 0)) HB 4 (.int .i64 0)) HB 5 (.bool false)) HB 6 (.bool false)) HB 7 (.int .i64 0)
 simp at ho
 have g0:=ho.at 0;have g1:=ho.at 1;have g2:=ho.at 2;have g3:=ho.at 3;have g4:=ho.at 4;have g5:=ho.at 5;have g6:=ho.at 6;have g7:=ho.at 7
 simp at g0 g1 g2 g3 g4 g5 g6 g7
 refine bodyPost_ret (by simp[results,Tryz.results83,go_sem,g0,g1,g2,g3,g4,g5,g6,g7];try rfl) rfl ?_
 exact SelEndQ.nm (nm:=nm) (ok:=ok) rfl hw hm9 HS.out
theorem selr_double (b:Nat) (l:List UInt8) (W:World) (h:RdR W b l) (hl:l.length≤1000000) (h42:l.head?≠some 42) (h39:l.head?≠some 39) (h34:l.head?=some 34) :
   Calls Tryz.prog 83 #[.pointer (some ⟨b,0,none⟩)] W (SelEndQ l b W):=by
 have H0:=hid (SeI.start h hl selZ)
 have hs:=selR_on l
 unfold selZ at H0
 rw[if_neg h42,if_neg h39,if_pos h34] at hs
 have HB:=h.inside
 have HS:=hid hs
 clear hs
 clear h hl
 go_enter Tryz.func83,Tryz.ntmps83
 go_wp2_with (first
   | (go_at_call 34;with_reducible refine (SeI.no H0.out h42).mono ?_
      go_must (
        rintro e w1 ⟨rfl,i1⟩
        have H1:=hid i1
        clear i1))
   | (go_at_call 34;with_reducible refine (SeI.no H1.out h39).mono ?_
      go_must (
        rintro e w2 ⟨rfl,i2⟩
        have H2:=hid i2
        clear i2))
   | (go_at_call 34;with_reducible refine (SeI.yes H2.out h34).mono ?_
      go_must (
        rintro e w3 ⟨rfl,i3⟩
        have H3:=hid i3
        clear i3))
   | (go_at_call 105;with_reducible refine (SeI.double H3.out).mono ?_
      go_must (
        rintro e w4 ⟨nm,ok,rfl,hs8⟩
        have ho8:=hs8.elim fun _ h=>h.2.1
        have d0:w4.cell? ⟨W.heap.size,0,none⟩=some (.int .i64 0):=ho8.at 0
        have df0:=ho8.free 0
        have d1:w4.cell? ⟨W.heap.size,1,none⟩=some (.string ⟨#[]⟩):=ho8.at 1
        have df1:=ho8.free 1
        have d2:w4.cell? ⟨W.heap.size,2,none⟩=some (.int .i64 0):=ho8.at 2
        have df2:=ho8.free 2
        have d3:w4.cell? ⟨W.heap.size,3,none⟩=some (.int .i64 0):=ho8.at 3
        have df3:=ho8.free 3
        have d4:w4.cell? ⟨W.heap.size,4,none⟩=some (.int .i64 0):=ho8.at 4
        have df4:=ho8.free 4
        have d5:w4.cell? ⟨W.heap.size,5,none⟩=some (.bool false):=ho8.at 5
        have df5:=ho8.free 5
        have d6:w4.cell? ⟨W.heap.size,6,none⟩=some (.bool false):=ho8.at 6
        have df6:=ho8.free 6
        have d7:w4.cell? ⟨W.heap.size,7,none⟩=some (.int .i64 0):=ho8.at 7
        have df7:=ho8.free 7
        have H4:=hid hs8
        clear hs8 ho8)))
 obtain ⟨r9,hw9,ho9,hm9⟩:=H4.out
 have ho:=((((((((ho9.put 0 (.int .i64 0)).put 1 (.string nm)).put 2 (.int .i64 0)).put 3 (.int .i64 0)).put 4 (.int .i64 0)).put 5 (.bool false)).put 6 (.bool false)).put 7 (.int .i64 0))
 have hw:=setw (setw (setw (setw (setw (setw (setw (setw hw9 HB 0 (.int .i64 0)) HB 1 (.string nm)) HB 2 (.int .i64 0)) HB 3 (.int .i64 0)) HB 4 (.int .i64 0)) HB 5 (.bool false)) HB 6 (.bool false)) HB 7 (.int .i64 0)
 simp at ho
 have g0:=ho.at 0;have g1:=ho.at 1;have g2:=ho.at 2;have g3:=ho.at 3;have g4:=ho.at 4;have g5:=ho.at 5;have g6:=ho.at 6;have g7:=ho.at 7
 simp at g0 g1 g2 g3 g4 g5 g6 g7
 refine bodyPost_ret (by simp[results,Tryz.results83,go_sem,g0,g1,g2,g3,g4,g5,g6,g7];try rfl) rfl ?_
 exact SelEndQ.nm (nm:=nm) (ok:=ok) rfl hw hm9 HS.out
theorem selr_index (b:Nat) (l:List UInt8) (W:World) (h:RdR W b l) (hl:l.length≤1000000) (h42:l.head?≠some 42) (h39:l.head?≠some 39) (h34:l.head?≠some 34) (h58:(skB (intA l).2).head?≠some 58) :
   Calls Tryz.prog 83 #[.pointer (some ⟨b,0,none⟩)] W (SelEndQ l b W):=by
 have H0:=hid (SeI.start h hl selZ)
 have hs:=selR_on l
 unfold selZ at H0
 rw[if_neg h42,if_neg h39,if_neg h34,if_neg h58] at hs
 have HS:=hid hs
 clear hs
 clear h hl
 go_enter Tryz.func83,Tryz.ntmps83
 go_wp2_with (first
   | (go_at_call 34;with_reducible refine (SeI.no H0.out h42).mono ?_
      go_must (
        rintro e w1 ⟨rfl,i1⟩
        have H1:=hid i1
        clear i1))
   | (go_at_call 34;with_reducible refine (SeI.no H1.out h39).mono ?_
      go_must (
        rintro e w2 ⟨rfl,i2⟩
        have H2:=hid i2
        clear i2))
   | (go_at_call 34;with_reducible refine (SeI.no H2.out h34).mono ?_
      go_must (
        rintro e w3 ⟨rfl,i3⟩
        have H3:=hid i3
        clear i3))
   | (go_at_call 106;with_reducible refine (SeI.int H3.out).mono ?_
      go_must (
        rintro e w4 ⟨rfl,i4⟩
        have H4:=hid i4
        clear i4))
   | (go_at_call 54;with_reducible refine (SeI.skip H4.out).mono ?_
      go_must (
        rintro e w5 ⟨rfl,i5⟩
        have H5:=hid i5
        clear i5))
   | (go_at_call 34;with_reducible refine (SeI.no H5.out h58).mono ?_
      go_must (
        rintro e w6 ⟨rfl,i6⟩
        have d0:w6.cell? ⟨W.heap.size,0,none⟩=some (.int .i64 0):=i6.dat 0
        have df0:=i6.dfree 0
        have d1:w6.cell? ⟨W.heap.size,1,none⟩=some (.string ⟨#[]⟩):=i6.dat 1
        have df1:=i6.dfree 1
        have d2:w6.cell? ⟨W.heap.size,2,none⟩=some (.int .i64 0):=i6.dat 2
        have df2:=i6.dfree 2
        have d3:w6.cell? ⟨W.heap.size,3,none⟩=some (.int .i64 0):=i6.dat 3
        have df3:=i6.dfree 3
        have d4:w6.cell? ⟨W.heap.size,4,none⟩=some (.int .i64 0):=i6.dat 4
        have df4:=i6.dfree 4
        have d5:w6.cell? ⟨W.heap.size,5,none⟩=some (.bool false):=i6.dat 5
        have df5:=i6.dfree 5
        have d6:w6.cell? ⟨W.heap.size,6,none⟩=some (.bool false):=i6.dat 6
        have df6:=i6.dfree 6
        have d7:w6.cell? ⟨W.heap.size,7,none⟩=some (.int .i64 0):=i6.dat 7
        have df7:=i6.dfree 7
        have H6:=hid i6
        clear i6)))
 have HF:=((((((((H6.out).res 0 (.int .i64 2)).res 1 (.string ⟨#[]⟩)).res 2 (.int .i64 ((intA l).1.getD 0))).res 3 (.int .i64 0)).res 4 (.int .i64 0)).res 5 (.bool false)).res 6 (.bool false)).res 7 (.int .i64 0)
 simp at HF
 have g0:=HF.dat 0;have g1:=HF.dat 1;have g2:=HF.dat 2;have g3:=HF.dat 3;have g4:=HF.dat 4;have g5:=HF.dat 5;have g6:=HF.dat 6;have g7:=HF.dat 7
 simp at g0 g1 g2 g3 g4 g5 g6 g7
 refine bodyPost_ret (by simp[results,Tryz.results83,go_sem,g0,g1,g2,g3,g4,g5,g6,g7];try rfl) rfl ?_
 have HW:=HF.2.2.1
 have hs9:=HS.out
 cases hi:(intA l).1 with
 | none=>rw[hi] at hs9;exact ⟨⟨2,⟨#[]⟩,0,0,0,false,false,0⟩,false,_,rfl,(by rw[hi] at HW;exact HW),by rw[hs9];rfl⟩
 | some v=>rw[hi] at hs9;exact SelEndQ.yes (sqI v) rfl (by rw[hi] at HW;exact HW) hs9
theorem selr_slice (b:Nat) (l:List UInt8) (W:World) (h:RdR W b l) (hl:l.length≤1000000) (h42:l.head?≠some 42) (h39:l.head?≠some 39) (h34:l.head?≠some 34) (h58:(skB (intA l).2).head?=some 58) :
   Calls Tryz.prog 83 #[.pointer (some ⟨b,0,none⟩)] W (SelEndQ l b W):=by
 have H0:=hid (SeI.start h hl selZ)
 have hs:=selR_on l
 unfold selZ at H0
 rw[if_neg h42,if_neg h39,if_neg h34,if_pos h58] at hs
 have HS:=hid hs
 clear hs
 clear h hl
 go_enter Tryz.func83,Tryz.ntmps83
 go_wp2_with (first
   | (go_at_call 34;with_reducible refine (SeI.no H0.out h42).mono ?_
      go_must (
        rintro e w1 ⟨rfl,i1⟩
        have H1:=hid i1
        clear i1))
   | (go_at_call 34;with_reducible refine (SeI.no H1.out h39).mono ?_
      go_must (
        rintro e w2 ⟨rfl,i2⟩
        have H2:=hid i2
        clear i2))
   | (go_at_call 34;with_reducible refine (SeI.no H2.out h34).mono ?_
      go_must (
        rintro e w3 ⟨rfl,i3⟩
        have H3:=hid i3
        clear i3))
   | (go_at_call 106;with_reducible refine (SeI.int H3.out).mono ?_
      go_must (
        rintro e w4 ⟨rfl,i4⟩
        have H4:=hid i4
        clear i4))
   | (go_at_call 54;with_reducible refine (SeI.skip H4.out).mono ?_
      go_must (
        rintro e w5 ⟨rfl,i5⟩
        have H5:=hid i5
        clear i5))
   | (go_at_call 34;with_reducible refine (SeI.yes H5.out h58).mono ?_
      go_must (
        rintro e w6 ⟨rfl,i6⟩
        have H6:=hid i6
        clear i6))
   | (go_at_call 107;with_reducible refine (SeI.slice H6.out (intA l).1).mono ?_
      go_must (
        rintro e w7 ⟨rfl,i7⟩
        have d0:w7.cell? ⟨W.heap.size,0,none⟩=some (.int .i64 0):=i7.dat 0
        have df0:=i7.dfree 0
        have d1:w7.cell? ⟨W.heap.size,1,none⟩=some (.string ⟨#[]⟩):=i7.dat 1
        have df1:=i7.dfree 1
        have d2:w7.cell? ⟨W.heap.size,2,none⟩=some (.int .i64 0):=i7.dat 2
        have df2:=i7.dfree 2
        have d3:w7.cell? ⟨W.heap.size,3,none⟩=some (.int .i64 0):=i7.dat 3
        have df3:=i7.dfree 3
        have d4:w7.cell? ⟨W.heap.size,4,none⟩=some (.int .i64 0):=i7.dat 4
        have df4:=i7.dfree 4
        have d5:w7.cell? ⟨W.heap.size,5,none⟩=some (.bool false):=i7.dat 5
        have df5:=i7.dfree 5
        have d6:w7.cell? ⟨W.heap.size,6,none⟩=some (.bool false):=i7.dat 6
        have df6:=i7.dfree 6
        have d7:w7.cell? ⟨W.heap.size,7,none⟩=some (.int .i64 0):=i7.dat 7
        have df7:=i7.dfree 7
        have H7:=hid i7
        clear i7)))
 have HF:=((((((((H7.out).res 0 (.int .i64 (slcR (intA l).1 (skB (intA l).2).tail).1.kind)).res 1 (.string (slcR (intA l).1 (skB (intA l).2).tail).1.name)).res 2 (.int .i64 (slcR (intA l).1 (skB (intA l).2).tail).1.index)).res 3 (.int .i64 (slcR (intA l).1 (skB (intA l).2).tail).1.start)).res 4 (.int .i64 (slcR (intA l).1 (skB (intA l).2).tail).1.en)).res 5 (.bool (slcR (intA l).1 (skB (intA l).2).tail).1.hs)).res 6 (.bool (slcR (intA l).1 (skB (intA l).2).tail).1.he)).res 7 (.int .i64 (slcR (intA l).1 (skB (intA l).2).tail).1.stride)
 simp at HF
 have g0:=HF.dat 0;have g1:=HF.dat 1;have g2:=HF.dat 2;have g3:=HF.dat 3;have g4:=HF.dat 4;have g5:=HF.dat 5;have g6:=HF.dat 6;have g7:=HF.dat 7
 simp at g0 g1 g2 g3 g4 g5 g6 g7
 refine bodyPost_ret (by simp[results,Tryz.results83,go_sem,g0,g1,g2,g3,g4,g5,g6,g7];try rfl) rfl ?_
 exact SelEndQ.yes _ rfl HF.2.2.1 HS.out
theorem selector_any (b:Nat) (l:List UInt8) (W:World) (h:RdR W b l) (hl:l.length≤1000000) :
   Calls Tryz.prog 83 #[.pointer (some ⟨b,0,none⟩)] W (SelEndQ l b W):=by
 by_cases h42:l.head?=some 42
 ·exact selr_all b l W h hl h42
 by_cases h39:l.head?=some 39
 ·exact selr_single b l W h hl h42 h39
 by_cases h34:l.head?=some 34
 ·exact selr_double b l W h hl h42 h39 h34
 by_cases h58:(skB (intA l).2).head?=some 58
 ·exact selr_slice b l W h hl h42 h39 h34 h58
 ·exact selr_index b l W h hl h42 h39 h34 h58
end
end Go.Proofs.YtnokhgfifbkflaaGreat
