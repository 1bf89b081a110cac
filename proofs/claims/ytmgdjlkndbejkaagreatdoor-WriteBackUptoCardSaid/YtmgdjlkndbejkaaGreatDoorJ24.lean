/- Lemmas. -/
import Derived.Test.YtmgdjlkndbejkaaGreatDoorJ19
import Derived.Test.YtmgdjlkndbejkaaGreatDoorJ20
import Derived.Test.YtmgdjlkndbejkaaGreatDoorJ21
import Derived.Test.YtmgdjlkndbejkaaGreatDoorJ22
import Derived.Test.YtmgdjlkndbejkaaGreatDoorJ23
import Derived.Test.YtmgdjlkndbejkaaGreatDoorJ14
set_option maxRecDepth 100000
set_option maxHeartbeats 8000000
set_option linter.unusedVariables false
set_option linter.unusedSimpArgs false
namespace Go.Proofs.YtmgdjlkndbejkaaGreatDoor
open Go.Lib (hid)
section
open Go.RowKit
theorem rsliced_any (s:ByteArray) (W:World) (hs:s.size≤1000000):Calls Tryz.prog 72 #[.string s] W (SlEnd s.data.toList W):=by
 cases hA:optI s.data.toList with
 | none=>exact rsl_bad s W hs hA
 | some a =>
   cases a with
   | none =>
     by_cases hc1:(s.data.toList.drop 0).head?=some 58
     ·cases hB : optI (s.data.toList.drop (1+runB (s.data.toList.drop 1))) with
      | none=>exact rsl_none_y_bad s W hs hA hc1 _ _ rfl rfl hB
      | some b =>
        cases b with
        | none =>
          by_cases hc2:(s.data.toList.drop (1+runB (s.data.toList.drop 1))).head?=some 58
          ·cases hC:optI (s.data.toList.drop (1+runB (s.data.toList.drop 1)+1+runB (s.data.toList.drop (1+runB (s.data.toList.drop 1)+1)))) with
           | none=>exact rsl_none_y_none_y_bad s W hs hA hc1 _ _ rfl rfl hB hc2 _ _ _ rfl rfl rfl hC
           | some c =>
             cases c with
             | none=>exact rsl_none_y_none_y_none s W hs hA hc1 _ _ rfl rfl hB hc2 _ _ _ rfl rfl rfl hC
             | some d=>exact rsl_none_y_none_y_some s W hs hA hc1 _ _ rfl rfl hB hc2 _ _ _ rfl rfl rfl d.1 d.2 hC
          ·exact rsl_none_y_none_n s W hs hA hc1 _ _ rfl rfl hB hc2
        | some b =>
          by_cases hc2:(s.data.toList.drop (1+runB (s.data.toList.drop 1)+b.2+runB (s.data.toList.drop (1+runB (s.data.toList.drop 1)+b.2)))).head?=some 58
          ·cases hC:optI (s.data.toList.drop ((1+runB (s.data.toList.drop 1)+b.2+runB (s.data.toList.drop (1+runB (s.data.toList.drop 1)+b.2)))+1+runB (s.data.toList.drop ((1+runB (s.data.toList.drop 1)+b.2+runB (s.data.toList.drop (1+runB (s.data.toList.drop 1)+b.2)))+1)))) with
           | none=>exact rsl_none_y_some_y_bad s W hs hA hc1 _ _ rfl rfl b.1 b.2 _ _ _ hB rfl rfl rfl hc2 _ _ _ rfl rfl rfl hC
           | some c =>
             cases c with
             | none=>exact rsl_none_y_some_y_none s W hs hA hc1 _ _ rfl rfl b.1 b.2 _ _ _ hB rfl rfl rfl hc2 _ _ _ rfl rfl rfl hC
             | some d=>exact rsl_none_y_some_y_some s W hs hA hc1 _ _ rfl rfl b.1 b.2 _ _ _ hB rfl rfl rfl hc2 _ _ _ rfl rfl rfl d.1 d.2 hC
          ·exact rsl_none_y_some_n s W hs hA hc1 _ _ rfl rfl b.1 b.2 _ _ _ hB rfl rfl rfl hc2
     ·exact rsl_none_n s W hs hA hc1
   | some a =>
     obtain ⟨v1,n1⟩:=a
     obtain ⟨p,hp⟩:∃ p,n1+runB (s.data.toList.drop n1)=p:=⟨_,rfl⟩
     by_cases hc1:(s.data.toList.drop p).head?=some 58
     ·obtain ⟨t,ht⟩:∃ t,p+1+runB (s.data.toList.drop (p+1))=t:=⟨_,rfl⟩
      cases hB:optI (s.data.toList.drop t) with
      | none=>exact rsl_some_y_bad s W hs v1 n1 _ p hA rfl hp hc1 _ _ t rfl rfl ht hB
      | some b =>
        cases b with
        | none =>
          by_cases hc2:(s.data.toList.drop t).head?=some 58
          ·cases hC:optI (s.data.toList.drop (t+1+runB (s.data.toList.drop (t+1)))) with
           | none=>exact rsl_some_y_none_y_bad s W hs v1 n1 _ p hA rfl hp hc1 _ _ t rfl rfl ht hB hc2 _ _ _ rfl rfl rfl hC
           | some c =>
             cases c with
             | none=>exact rsl_some_y_none_y_none s W hs v1 n1 _ p hA rfl hp hc1 _ _ t rfl rfl ht hB hc2 _ _ _ rfl rfl rfl hC
             | some d=>exact rsl_some_y_none_y_some s W hs v1 n1 _ p hA rfl hp hc1 _ _ t rfl rfl ht hB hc2 _ _ _ rfl rfl rfl d.1 d.2 hC
          ·exact rsl_some_y_none_n s W hs v1 n1 _ p hA rfl hp hc1 _ _ t rfl rfl ht hB hc2
        | some b =>
          obtain ⟨v2,n2⟩:=b
          obtain ⟨u,hu⟩:∃ u,t+n2+runB (s.data.toList.drop (t+n2))=u:=⟨_,rfl⟩
          by_cases hc2:(s.data.toList.drop u).head?=some 58
          ·cases hC:optI (s.data.toList.drop (u+1+runB (s.data.toList.drop (u+1)))) with
           | none=>exact rsl_some_y_some_y_bad s W hs v1 n1 _ p hA rfl hp hc1 _ _ t rfl rfl ht v2 n2 _ _ u hB rfl rfl hu hc2 _ _ _ rfl rfl rfl hC
           | some c =>
             cases c with
             | none=>exact rsl_some_y_some_y_none s W hs v1 n1 _ p hA rfl hp hc1 _ _ t rfl rfl ht v2 n2 _ _ u hB rfl rfl hu hc2 _ _ _ rfl rfl rfl hC
             | some d=>exact rsl_some_y_some_y_some s W hs v1 n1 _ p hA rfl hp hc1 _ _ t rfl rfl ht v2 n2 _ _ u hB rfl rfl hu hc2 _ _ _ rfl rfl rfl d.1 d.2 hC
          ·exact rsl_some_y_some_n s W hs v1 n1 _ p hA rfl hp hc1 _ _ t rfl rfl ht v2 n2 _ _ u hB rfl rfl hu hc2
     ·exact rsl_some_n s W hs v1 n1 _ p hA rfl hp hc1
theorem headL_lt {l:List UInt8} {p:Nat} {c:UInt8} (h:(l.drop p).head?=some c):p<l.length:=by
 by_cases hp:p<l.length
 ·exact hp
 ·rw[List.drop_of_length_le (by omega)] at h;cases h
theorem slcC_in {a b:Option Int} {l:List UInt8} {k n:Nat} {x:Sel} (hc:(l.drop k).head?=some 58) (h:slcC a b l k=some (x,n)):k+1≤n∧n≤l.length:=by
 have hk:=headL_lt hc
 have hr:=runB_le (l.drop (k+1))
 rw[List.length_drop] at hr
 unfold slcC at h
 split at h
 ·cases h
 ·injection h with h
  injection h with h1 h2
  omega
 ·rename_i v m hm
  have hn:=nrQ_in (optI_some hm)
  rw[List.length_drop] at hn
  injection h with h
  injection h with h1 h2
  omega
theorem slcB_in {a:Option Int} {l:List UInt8} {k n:Nat} {x:Sel} (hk:k≤l.length) (h:slcB a l k=some (x,n)):k≤n∧n≤l.length:=by
 have hr:=runB_le (l.drop k)
 rw[List.length_drop] at hr
 unfold slcB at h
 split at h
 ·cases h
 ·split at h
  ·rename_i hc
   have:=slcC_in hc h
   omega
  ·injection h with h
   injection h with h1 h2
   omega
 ·rename_i v m hm
  have hn:=nrQ_in (optI_some hm)
  rw[List.length_drop] at hn
  split at h
  ·rename_i hc
   have:=slcC_in hc h
   omega
  ·injection h with h
   injection h with h1 h2
   omega
theorem slcQ_in {l:List UInt8} {n:Nat} {x:Sel} (h:slcQ l=some (x,n)):1≤n∧n≤l.length:=by
 unfold slcQ at h
 split at h
 ·cases h
 ·split at h
  ·rename_i hc
   have h0:=headL_lt (l:=l) (p:=0) hc
   exact slcB_in (by omega) h
  ·cases h
 ·rename_i v m hm
  have hn:=nrQ_in (optI_some hm)
  split at h
  ·rename_i hc
   have hlt:=headL_lt hc
   have:=slcB_in (by omega) h
   omega
  ·cases h
theorem quoGo_in (m:UInt8):∀ (f:Nat) (l acc:List UInt8) (k:Nat) (b:List UInt8) (n:Nat),quoGo m f l acc k=some (b,n)→k+1≤n∧n≤k+l.length
 | 0,l,acc,k,b,n,h=>by cases h
 | f+1,[],acc,k,b,n,h=>by cases h
 | f + 1,c :: t,acc,k,b,n,h=>by
   rw[quoGo_on] at h
   split at h
   ·injection h with h;injection h with h1 h2;simp;omega
   split at h
   ·cases h
   split at h
   ·have:=quoGo_in m f t _ _ _ _ h
    simp;omega
   ·split at h
    ·cases h
    ·rename_i b' n' hx
     have he:=escQ_in hx
     have:=quoGo_in m f _ _ _ _ _ h
     rw[List.length_drop] at this
     simp;omega
theorem quoQ_in {l b:List UInt8} {n:Nat} (h:quoQ l=some (b,n)):1≤n∧n≤l.length:=by
 cases l with
 | nil=>cases h
 | cons m t =>
   have:=quoGo_in m (t.length+1) t [] 1 b n h
   simp;omega
theorem selQ_in {l:List UInt8} {n:Nat} {x:Sel} (h:selQ l=some (x,n)):1≤n∧n≤l.length:=by
 unfold selQ at h
 split at h
 ·rename_i hc
  injection h with h
  injection h with h1 h2
  have:=headL_lt (l:=l) (p:=0) hc
  omega
 split at h
 ·cases hq:quoQ l with
  | none=>rw[hq] at h;cases h
  | some p =>
    rw[hq] at h
    injection h with h
    injection h with h1 h2
    have:=quoQ_in (b:=p.1) (n:=p.2) hq
    omega
 ·split at h
  ·rename_i p hp
   have e:p=(x,n):=Option.some.inj h
   rw[e] at hp
   exact slcQ_in hp
  ·cases hq:nrQ l with
   | none=>rw[hq] at h;cases h
   | some p =>
     rw[hq] at h
     injection h with h
     injection h with h1 h2
     have:=nrQ_in (v:=p.1) (n:=p.2) hq
     omega
end
section
open Go.RowKit
def ZeB (W w:World):Prop:=Own w W.heap.size 35 #[.int .i64 0,.string ⟨#[]⟩,.int .i64 0,.int .i64 0,.int .i64 0,.bool false,.bool false,.int .i64 0]∧Below W.heap.size W w
section
variable {W w w':World}
theorem ZeB.start (W:World):ZeB W (W.alloc (.cells #[.int .i64 0,.string ⟨#[]⟩,.int .i64 0,.int .i64 0,.int .i64 0,.bool false,.bool false,.int .i64 0] 35)):=⟨Own.fresh W _ _,below1 _ _⟩
theorem ZeB.on (h:ZeB W w)(hb:Below w.heap.size w w'):ZeB W w':=⟨h.1.stay hb h.1.inside,h.2.trans (hb.mono h.2.size)⟩
theorem ZeB.z (h:ZeB W w)(i:Nat):w.cell? ⟨W.heap.size,i,none⟩=(#[.int .i64 0,.string ⟨#[]⟩,.int .i64 0,.int .i64 0,.int .i64 0,.bool false,.bool false,.int .i64 0]:Array Value)[i]?:=h.1.at i
theorem ZeB.fz (h:ZeB W w)(i:Nat):w.frozen? ⟨W.heap.size,i,none⟩=false:=h.1.free i
theorem ZeB.fin (h:ZeB W w) (c0 c1 c2 c3 c4 c5 c6 c7:Value) :
   Own ((((((((w.setCell ⟨W.heap.size,0,none⟩ c0).setCell ⟨W.heap.size,1,none⟩ c1).setCell ⟨W.heap.size,2,none⟩ c2).setCell ⟨W.heap.size,3,none⟩ c3).setCell ⟨W.heap.size,4,none⟩ c4).setCell ⟨W.heap.size,5,none⟩ c5).setCell ⟨W.heap.size,6,none⟩ c6).setCell ⟨W.heap.size,7,none⟩ c7) W.heap.size 35 #[c0,c1,c2,c3,c4,c5,c6,c7] ∧
   Below W.heap.size W ((((((((w.setCell ⟨W.heap.size,0,none⟩ c0).setCell ⟨W.heap.size,1,none⟩ c1).setCell ⟨W.heap.size,2,none⟩ c2).setCell ⟨W.heap.size,3,none⟩ c3).setCell ⟨W.heap.size,4,none⟩ c4).setCell ⟨W.heap.size,5,none⟩ c5).setCell ⟨W.heap.size,6,none⟩ c6).setCell ⟨W.heap.size,7,none⟩ c7):=by
 refine ⟨?_,(((((((h.2.setCell (Nat.le_refl _) _).setCell (Nat.le_refl _) _).setCell (Nat.le_refl _) _).setCell (Nat.le_refl _) _).setCell (Nat.le_refl _) _).setCell (Nat.le_refl _) _).setCell (Nat.le_refl _) _).setCell (Nat.le_refl _) _⟩
 simpa using (((((((h.1.put 0 c0).put 1 c1).put 2 c2).put 3 c3).put 4 c4).put 5 c5).put 6 c6).put 7 c7
end
def SeEnd (l:List UInt8) (W:World) (e:Ending) (w':World):Prop :=
 (match selQ l with
   | none => ∃ x:Sel,e=.returned (.tuple #[.agg (selV x),.int .i64 0])
   | some (x,n)=>e=.returned (.tuple #[.agg (selV x),.int .i64 n]))∧Below W.heap.size W w'
theorem SeEnd.no {l:List UInt8} {W w':World} {v:Array Value} (x:Sel) (h:selQ l=none) (hv:v=selV x) (hb:Below W.heap.size W w'):SeEnd l W (.returned (.tuple #[.agg v,.int .i64 0])) w':=by
 unfold SeEnd;rw[h,hv];exact ⟨⟨x,rfl⟩,hb⟩
theorem SeEnd.yes {l:List UInt8} {W w':World} {x:Sel} {n:Nat} {k:Int} {v:Array Value} (h:selQ l=some (x,n)) (hv:v=selV x) (hk:(n:Int)=k) (hb:Below W.heap.size W w'):SeEnd l W (.returned (.tuple #[.agg v,.int .i64 k])) w':=by
 unfold SeEnd;rw[h,← hk,hv];exact ⟨rfl,hb⟩
theorem beg0 {s:ByteArray} (c:UInt8) (x:Int) (hx:(c.toNat:Int)=x) (b:Bool) (hs:s.size≤1000000) (h:decide (s.data.toList.head?=some c)=b) (w:World) :
   Calls Tryz.prog 26 #[.string s,.int .u8 x] w fun e w'=>e=.returned (.bool b)∧w=w':=by
 subst hx
 have:=begins_any s c w hs
 rw[h] at this
 exact this
theorem rquo_no {s:ByteArray} (h:quoQ s.data.toList=none) (hs:s.size≤1000000) (h0:0<s.size) (w:World) :
   Calls Tryz.prog 71 #[.string s] w fun e w'=>e=.returned (.tuple #[.string ⟨#[]⟩,.int .i64 0])∧Below w.heap.size w w':=by
 refine (rquoted_any s w hs h0).mono fun e w' he => ?_
 unfold QuEnd at he
 rw[h] at he
 exact he
theorem rquo_yes {s:ByteArray} {b:List UInt8} {n:Nat} (h:quoQ s.data.toList=some (b,n)) (hs:s.size≤1000000) (h0:0<s.size) (w:World) :
   Calls Tryz.prog 71 #[.string s] w fun e w'=>e=.returned (.tuple #[.string ⟨b.toArray⟩,.int .i64 n])∧Below w.heap.size w w':=by
 refine (rquoted_any s w hs h0).mono fun e w' he => ?_
 unfold QuEnd at he
 rw[h] at he
 exact he
theorem rslc_no {s:ByteArray} (h:slcQ s.data.toList=none) (hs:s.size≤1000000) (w:World) :
   Calls Tryz.prog 72 #[.string s] w fun e w' => ∃ x:Sel,e=.returned (.tuple #[.agg #[.int .i64 x.kind,.string x.name,.int .i64 x.index,.int .i64 x.start,.int .i64 x.en,.bool x.hs,.bool x.he,.int .i64 x.stride],.int .i64 0])∧Below w.heap.size w w':=by
 refine (rsliced_any s w hs).mono fun e w' he => ?_
 unfold SlEnd at he
 rw[h] at he
 obtain ⟨⟨x,he⟩,hb⟩:=he
 exact ⟨x,he,hb⟩
theorem rslc_yes {s:ByteArray} {x:Sel} {n:Nat} (h:slcQ s.data.toList=some (x,n)) (hs:s.size≤1000000) (w:World) :
   Calls Tryz.prog 72 #[.string s] w fun e w'=>e=.returned (.tuple #[.agg #[.int .i64 x.kind,.string x.name,.int .i64 x.index,.int .i64 x.start,.int .i64 x.en,.bool x.hs,.bool x.he,.int .i64 x.stride],.int .i64 n])∧Below w.heap.size w w':=by
 refine (rsliced_any s w hs).mono fun e w' he => ?_
 unfold SlEnd at he
 rw[h] at he
 exact he
theorem rsel_any (s:ByteArray) (W:World) (hs:s.size≤1000000) (h42:s.data.toList.head?=some 42) :
   Calls Tryz.prog 58 #[.string s] W (SeEnd s.data.toList W):=by
 have HQ:=hid (show selQ s.data.toList=some (sqA,1) by unfold selQ;rw[if_pos h42])
 have B1:=hid (fun w=>beg0 42 42 rfl true hs (decide_eq_true h42) w)
 have S0:=hid (ZeB.start W)
 go_enter Tryz.func58,Tryz.ntmps58
 go_wp2_with (go_at_call 26;with_reducible refine (B1.out _).mono ?_;rintro e w' ⟨rfl,rfl⟩)
 refine bodyPost_ret (by simp[results,Tryz.results58,go_sem];try rfl) rfl ?_
 exact SeEnd.yes HQ.out rfl rfl (by first|exact S0.out.2|exact below1 _ _)
theorem rsel_quo (s:ByteArray) (W:World) (hs:s.size≤1000000) (h42:s.data.toList.head?≠some 42) (hq:s.data.toList.head?=some 34∨s.data.toList.head?=some 39) :
   Calls Tryz.prog 58 #[.string s] W (SeEnd s.data.toList W):=by
 have hsel:selQ s.data.toList=(quoQ s.data.toList).map fun p=>(sqN p.1,p.2):=by unfold selQ;rw[if_neg h42,if_pos hq]
 have h0:0<s.size:=by rcases hq with h|h<;>exact head_lt (p:=0) h
 have B1:=hid (fun w=>beg0 42 42 rfl false hs (decide_eq_false h42) w)
 have S0:=hid (ZeB.start W)
 have hb:(s.data.toList.head?=some 34)∨(s.data.toList.head?≠some 34∧s.data.toList.head?=some 39):=by
   by_cases h:s.data.toList.head?=some 34
   ·exact .inl h
   ·exact .inr ⟨h,hq.resolve_left h⟩
 cases hx:quoQ s.data.toList with
 | none =>
   rw[hx] at hsel
   have HQ:=hid (show selQ s.data.toList=none from hsel)
   have KQ:=hid (fun w=>rquo_no hx hs h0 w)
   clear hsel hx h42 hq
   rcases hb with h34|⟨h34,h39⟩
   ·have B2:=hid (fun w=>beg0 34 34 rfl true hs (decide_eq_true h34) w)
    go_enter Tryz.func58,Tryz.ntmps58
    go_wp2_with (first
      | (go_at_call 26;with_reducible refine (B1.out _).mono ?_;rintro e w' ⟨rfl,rfl⟩)
      | (go_at_call 26;with_reducible refine (B2.out _).mono ?_;rintro e w' ⟨rfl,rfl⟩)
      | (go_at_call 71;with_reducible refine (KQ.out _).mono ?_;rintro e w1 ⟨rfl,hb1⟩;have h1:=S0.out.on hb1;have z0:=h1.z 0;have z1:=h1.z 1;have z2:=h1.z 2;have z3:=h1.z 3;have z4:=h1.z 4;have z5:=h1.z 5;have z6:=h1.z 6;have z7:=h1.z 7;have y0:=h1.fz 0;have y1:=h1.fz 1;have y2:=h1.fz 2;have y3:=h1.fz 3;have y4:=h1.fz 4;have y5:=h1.fz 5;have y6:=h1.fz 6;have y7:=h1.fz 7;simp at z0 z1 z2 z3 z4 z5 z6 z7;have S1:=hid h1;clear h1 hb1))
    have HF:=S1.out.fin (.int .i64 0) (.string ⟨#[]⟩) (.int .i64 0) (.int .i64 0) (.int .i64 0) (.bool false) (.bool false) (.int .i64 0)
    have m0:=HF.1.at 0
    have m1:=HF.1.at 1
    have m2:=HF.1.at 2
    have m3:=HF.1.at 3
    have m4:=HF.1.at 4
    have m5:=HF.1.at 5
    have m6:=HF.1.at 6
    have m7:=HF.1.at 7
    simp at m0 m1 m2 m3 m4 m5 m6 m7
    refine bodyPost_ret (by simp[results,Tryz.results58,go_sem,m0,m1,m2,m3,m4,m5,m6,m7];try rfl) rfl ?_
    exact SeEnd.no ⟨0,⟨#[]⟩,0,0,0,false,false,0⟩ HQ.out rfl HF.2
   ·have B2:=hid (fun w=>beg0 34 34 rfl false hs (decide_eq_false h34) w)
    have B3:=hid (fun w=>beg0 39 39 rfl true hs (decide_eq_true h39) w)
    go_enter Tryz.func58,Tryz.ntmps58
    go_wp2_with (first
      | (go_at_call 26;with_reducible refine (B1.out _).mono ?_;rintro e w' ⟨rfl,rfl⟩)
      | (go_at_call 26;with_reducible refine (B2.out _).mono ?_;rintro e w' ⟨rfl,rfl⟩)
      | (go_at_call 26;with_reducible refine (B3.out _).mono ?_;rintro e w' ⟨rfl,rfl⟩)
      | (go_at_call 71;with_reducible refine (KQ.out _).mono ?_;rintro e w1 ⟨rfl,hb1⟩;have h1:=S0.out.on hb1;have z0:=h1.z 0;have z1:=h1.z 1;have z2:=h1.z 2;have z3:=h1.z 3;have z4:=h1.z 4;have z5:=h1.z 5;have z6:=h1.z 6;have z7:=h1.z 7;have y0:=h1.fz 0;have y1:=h1.fz 1;have y2:=h1.fz 2;have y3:=h1.fz 3;have y4:=h1.fz 4;have y5:=h1.fz 5;have y6:=h1.fz 6;have y7:=h1.fz 7;simp at z0 z1 z2 z3 z4 z5 z6 z7;have S1:=hid h1;clear h1 hb1))
    have HF:=S1.out.fin (.int .i64 0) (.string ⟨#[]⟩) (.int .i64 0) (.int .i64 0) (.int .i64 0) (.bool false) (.bool false) (.int .i64 0)
    have m0:=HF.1.at 0
    have m1:=HF.1.at 1
    have m2:=HF.1.at 2
    have m3:=HF.1.at 3
    have m4:=HF.1.at 4
    have m5:=HF.1.at 5
    have m6:=HF.1.at 6
    have m7:=HF.1.at 7
    simp at m0 m1 m2 m3 m4 m5 m6 m7
    refine bodyPost_ret (by simp[results,Tryz.results58,go_sem,m0,m1,m2,m3,m4,m5,m6,m7];try rfl) rfl ?_
    exact SeEnd.no ⟨0,⟨#[]⟩,0,0,0,false,false,0⟩ HQ.out rfl HF.2
 | some p =>
   obtain ⟨b,n⟩:=p
   rw[hx] at hsel
   have HQ:=hid (show selQ s.data.toList=some (sqN b,n) from hsel)
   have KQ:=hid (fun w=>rquo_yes hx hs h0 w)
   clear hsel hx h42 hq
   rcases hb with h34|⟨h34,h39⟩
   ·have B2:=hid (fun w=>beg0 34 34 rfl true hs (decide_eq_true h34) w)
    go_enter Tryz.func58,Tryz.ntmps58
    go_wp2_with (first
      | (go_at_call 26;with_reducible refine (B1.out _).mono ?_;rintro e w' ⟨rfl,rfl⟩)
      | (go_at_call 26;with_reducible refine (B2.out _).mono ?_;rintro e w' ⟨rfl,rfl⟩)
      | (go_at_call 71;with_reducible refine (KQ.out _).mono ?_;rintro e w1 ⟨rfl,hb1⟩;have h1:=S0.out.on hb1;have z0:=h1.z 0;have z1:=h1.z 1;have z2:=h1.z 2;have z3:=h1.z 3;have z4:=h1.z 4;have z5:=h1.z 5;have z6:=h1.z 6;have z7:=h1.z 7;have y0:=h1.fz 0;have y1:=h1.fz 1;have y2:=h1.fz 2;have y3:=h1.fz 3;have y4:=h1.fz 4;have y5:=h1.fz 5;have y6:=h1.fz 6;have y7:=h1.fz 7;simp at z0 z1 z2 z3 z4 z5 z6 z7;have S1:=hid h1;clear h1 hb1))
    have HF:=S1.out.fin (.int .i64 0) (.string ⟨b.toArray⟩) (.int .i64 0) (.int .i64 0) (.int .i64 0) (.bool false) (.bool false) (.int .i64 0)
    have m0:=HF.1.at 0
    have m1:=HF.1.at 1
    have m2:=HF.1.at 2
    have m3:=HF.1.at 3
    have m4:=HF.1.at 4
    have m5:=HF.1.at 5
    have m6:=HF.1.at 6
    have m7:=HF.1.at 7
    simp at m0 m1 m2 m3 m4 m5 m6 m7
    refine bodyPost_ret (by simp[results,Tryz.results58,go_sem,m0,m1,m2,m3,m4,m5,m6,m7];try rfl) rfl ?_
    exact SeEnd.yes HQ.out rfl rfl HF.2
   ·have B2:=hid (fun w=>beg0 34 34 rfl false hs (decide_eq_false h34) w)
    have B3:=hid (fun w=>beg0 39 39 rfl true hs (decide_eq_true h39) w)
    go_enter Tryz.func58,Tryz.ntmps58
    go_wp2_with (first
      | (go_at_call 26;with_reducible refine (B1.out _).mono ?_;rintro e w' ⟨rfl,rfl⟩)
      | (go_at_call 26;with_reducible refine (B2.out _).mono ?_;rintro e w' ⟨rfl,rfl⟩)
      | (go_at_call 26;with_reducible refine (B3.out _).mono ?_;rintro e w' ⟨rfl,rfl⟩)
      | (go_at_call 71;with_reducible refine (KQ.out _).mono ?_;rintro e w1 ⟨rfl,hb1⟩;have h1:=S0.out.on hb1;have z0:=h1.z 0;have z1:=h1.z 1;have z2:=h1.z 2;have z3:=h1.z 3;have z4:=h1.z 4;have z5:=h1.z 5;have z6:=h1.z 6;have z7:=h1.z 7;have y0:=h1.fz 0;have y1:=h1.fz 1;have y2:=h1.fz 2;have y3:=h1.fz 3;have y4:=h1.fz 4;have y5:=h1.fz 5;have y6:=h1.fz 6;have y7:=h1.fz 7;simp at z0 z1 z2 z3 z4 z5 z6 z7;have S1:=hid h1;clear h1 hb1))
    have HF:=S1.out.fin (.int .i64 0) (.string ⟨b.toArray⟩) (.int .i64 0) (.int .i64 0) (.int .i64 0) (.bool false) (.bool false) (.int .i64 0)
    have m0:=HF.1.at 0
    have m1:=HF.1.at 1
    have m2:=HF.1.at 2
    have m3:=HF.1.at 3
    have m4:=HF.1.at 4
    have m5:=HF.1.at 5
    have m6:=HF.1.at 6
    have m7:=HF.1.at 7
    simp at m0 m1 m2 m3 m4 m5 m6 m7
    refine bodyPost_ret (by simp[results,Tryz.results58,go_sem,m0,m1,m2,m3,m4,m5,m6,m7];try rfl) rfl ?_
    exact SeEnd.yes HQ.out rfl rfl HF.2
end
section
open Go.RowKit
theorem rsel_slc (s:ByteArray) (W:World) (hs:s.size≤1000000) (h42:s.data.toList.head?≠some 42) (h34:s.data.toList.head?≠some 34) (h39:s.data.toList.head?≠some 39) :
   Calls Tryz.prog 58 #[.string s] W (SeEnd s.data.toList W):=by
 have hsel:selQ s.data.toList=match slcQ s.data.toList with|some p=>some p|none=>(nrQ s.data.toList).map fun p=>(sqI p.1,p.2):=by
   unfold selQ
   rw[if_neg h42,if_neg (fun h=>h.elim h34 h39)]
   cases slcQ s.data.toList<;>rfl
 have B1:=hid (fun w=>beg0 42 42 rfl false hs (decide_eq_false h42) w)
 have B2:=hid (fun w=>beg0 34 34 rfl false hs (decide_eq_false h34) w)
 have B3:=hid (fun w=>beg0 39 39 rfl false hs (decide_eq_false h39) w)
 have S0:=hid (ZeB.start W)
 clear h42 h34 h39
 cases hx:slcQ s.data.toList with
 | some p =>
   obtain ⟨x,n⟩:=p
   rw[hx] at hsel
   have HQ:=hid (show selQ s.data.toList=some (x,n) from hsel)
   have hn:=(slcQ_in hx).1
   have nI:(n:Int)>0:=by omega
   have KS:=hid (fun w=>rslc_yes hx hs w)
   clear hsel hx hn
   go_enter Tryz.func58,Tryz.ntmps58
   go_wp2_with (first
   | (go_at_call 26;with_reducible refine (B1.out _).mono ?_;rintro e w' ⟨rfl,rfl⟩)
   | (go_at_call 26;with_reducible refine (B2.out _).mono ?_;rintro e w' ⟨rfl,rfl⟩)
   | (go_at_call 26;with_reducible refine (B3.out _).mono ?_;rintro e w' ⟨rfl,rfl⟩)
   | (go_at_call 72;with_reducible refine (KS.out _).mono ?_;rintro e w1 ⟨rfl,hb1⟩;have h1:=S0.out.on hb1;have h2:=h1.on (below1 w1 (.cells #[.int .i64 x.kind,.string x.name,.int .i64 x.index,.int .i64 x.start,.int .i64 x.en,.bool x.hs,.bool x.he,.int .i64 x.stride] 35));have o2:=Own.fresh w1 35 #[.int .i64 x.kind,.string x.name,.int .i64 x.index,.int .i64 x.start,.int .i64 x.en,.bool x.hs,.bool x.he,.int .i64 x.stride];have a0:=o2.at 0;have a1:=o2.at 1;have a2:=o2.at 2;have a3:=o2.at 3;have a4:=o2.at 4;have a5:=o2.at 5;have a6:=o2.at 6;have a7:=o2.at 7;simp at a0 a1 a2 a3 a4 a5 a6 a7;have z20:=h2.z 0;have y20:=h2.fz 0;have z21:=h2.z 1;have y21:=h2.fz 1;have z22:=h2.z 2;have y22:=h2.fz 2;have z23:=h2.z 3;have y23:=h2.fz 3;have z24:=h2.z 4;have y24:=h2.fz 4;have z25:=h2.z 5;have y25:=h2.fz 5;have z26:=h2.z 6;have y26:=h2.fz 6;have z27:=h2.z 7;have y27:=h2.fz 7;simp at z20 z21 z22 z23 z24 z25 z26 z27;have S2:=hid h2;clear h1 h2 hb1 o2))
   have HF:=S2.out.fin (.int .i64 x.kind) (.string x.name) (.int .i64 x.index) (.int .i64 x.start) (.int .i64 x.en) (.bool x.hs) (.bool x.he) (.int .i64 x.stride)
   have m0:=HF.1.at 0
   have m1:=HF.1.at 1
   have m2:=HF.1.at 2
   have m3:=HF.1.at 3
   have m4:=HF.1.at 4
   have m5:=HF.1.at 5
   have m6:=HF.1.at 6
   have m7:=HF.1.at 7
   simp at m0 m1 m2 m3 m4 m5 m6 m7
   refine bodyPost_ret (by simp[results,Tryz.results58,go_sem,m0,m1,m2,m3,m4,m5,m6,m7];try rfl) rfl ?_
   exact SeEnd.yes HQ.out rfl rfl HF.2
 | none =>
   rw[hx] at hsel
   have hsel:selQ s.data.toList=(nrQ s.data.toList).map fun p=>(sqI p.1,p.2):=hsel
   have KS:=hid (fun w=>rslc_no hx hs w)
   clear hx
   cases hi:nrQ s.data.toList with
   | none =>
     rw[hi] at hsel
     have HQ:=hid (show selQ s.data.toList=none from hsel)
     have KI:=hid (fun w=>rint_no hi hs w)
     clear hsel hi
     go_enter Tryz.func58,Tryz.ntmps58
     go_wp2_with (first
       | (go_at_call 26;with_reducible refine (B1.out _).mono ?_;rintro e w' ⟨rfl,rfl⟩)
       | (go_at_call 26;with_reducible refine (B2.out _).mono ?_;rintro e w' ⟨rfl,rfl⟩)
       | (go_at_call 26;with_reducible refine (B3.out _).mono ?_;rintro e w' ⟨rfl,rfl⟩)
       | (go_at_call 72;with_reducible refine (KS.out _).mono ?_;rintro e w1 ⟨x,rfl,hb1⟩;have h1:=S0.out.on hb1;have S2:=hid (fun o=>h1.on (below1 w1 o));clear h1 hb1)
       | (go_at_call 73;with_reducible refine (KI.out _).mono ?_;rintro e w3 ⟨rfl,hb3⟩;have h3:=(S2.out _).on hb3;have z30:=h3.z 0;have y30:=h3.fz 0;have z31:=h3.z 1;have y31:=h3.fz 1;have z32:=h3.z 2;have y32:=h3.fz 2;have z33:=h3.z 3;have y33:=h3.fz 3;have z34:=h3.z 4;have y34:=h3.fz 4;have z35:=h3.z 5;have y35:=h3.fz 5;have z36:=h3.z 6;have y36:=h3.fz 6;have z37:=h3.z 7;have y37:=h3.fz 7;simp at z30 z31 z32 z33 z34 z35 z36 z37;have S3:=hid h3;clear h3 hb3))
     have HF:=S3.out.fin (.int .i64 0) (.string ⟨#[]⟩) (.int .i64 0) (.int .i64 0) (.int .i64 0) (.bool false) (.bool false) (.int .i64 0)
     have m0:=HF.1.at 0
     have m1:=HF.1.at 1
     have m2:=HF.1.at 2
     have m3:=HF.1.at 3
     have m4:=HF.1.at 4
     have m5:=HF.1.at 5
     have m6:=HF.1.at 6
     have m7:=HF.1.at 7
     simp at m0 m1 m2 m3 m4 m5 m6 m7
     refine bodyPost_ret (by simp[results,Tryz.results58,go_sem,m0,m1,m2,m3,m4,m5,m6,m7];try rfl) rfl ?_
     exact SeEnd.no ⟨0,⟨#[]⟩,0,0,0,false,false,0⟩ HQ.out rfl HF.2
   | some p =>
     obtain ⟨v,n⟩:=p
     rw[hi] at hsel
     have HQ:=hid (show selQ s.data.toList=some (sqI v,n) from hsel)
     have KI:=hid (fun w=>rint_yes hi hs w)
     clear hsel hi
     go_enter Tryz.func58,Tryz.ntmps58
     go_wp2_with (first
       | (go_at_call 26;with_reducible refine (B1.out _).mono ?_;rintro e w' ⟨rfl,rfl⟩)
       | (go_at_call 26;with_reducible refine (B2.out _).mono ?_;rintro e w' ⟨rfl,rfl⟩)
       | (go_at_call 26;with_reducible refine (B3.out _).mono ?_;rintro e w' ⟨rfl,rfl⟩)
       | (go_at_call 72;with_reducible refine (KS.out _).mono ?_;rintro e w1 ⟨x,rfl,hb1⟩;have h1:=S0.out.on hb1;have S2:=hid (fun o=>h1.on (below1 w1 o));clear h1 hb1)
       | (go_at_call 73;with_reducible refine (KI.out _).mono ?_;rintro e w3 ⟨rfl,hb3⟩;have h3:=(S2.out _).on hb3;have z30:=h3.z 0;have y30:=h3.fz 0;have z31:=h3.z 1;have y31:=h3.fz 1;have z32:=h3.z 2;have y32:=h3.fz 2;have z33:=h3.z 3;have y33:=h3.fz 3;have z34:=h3.z 4;have y34:=h3.fz 4;have z35:=h3.z 5;have y35:=h3.fz 5;have z36:=h3.z 6;have y36:=h3.fz 6;have z37:=h3.z 7;have y37:=h3.fz 7;simp at z30 z31 z32 z33 z34 z35 z36 z37;have S3:=hid h3;clear h3 hb3))
     have HF:=S3.out.fin (.int .i64 2) (.string ⟨#[]⟩) (.int .i64 v) (.int .i64 0) (.int .i64 0) (.bool false) (.bool false) (.int .i64 0)
     have m0:=HF.1.at 0
     have m1:=HF.1.at 1
     have m2:=HF.1.at 2
     have m3:=HF.1.at 3
     have m4:=HF.1.at 4
     have m5:=HF.1.at 5
     have m6:=HF.1.at 6
     have m7:=HF.1.at 7
     simp at m0 m1 m2 m3 m4 m5 m6 m7
     refine bodyPost_ret (by simp[results,Tryz.results58,go_sem,m0,m1,m2,m3,m4,m5,m6,m7];try rfl) rfl ?_
     exact SeEnd.yes HQ.out rfl rfl HF.2
theorem rselector_any (s:ByteArray) (W:World) (hs:s.size≤1000000):Calls Tryz.prog 58 #[.string s] W (SeEnd s.data.toList W):=by
 by_cases h42:s.data.toList.head?=some 42
 ·exact rsel_any s W hs h42
 by_cases h34:s.data.toList.head?=some 34
 ·exact rsel_quo s W hs h42 (.inl h34)
 by_cases h39:s.data.toList.head?=some 39
 ·exact rsel_quo s W hs h42 (.inr h39)
 ·exact rsel_slc s W hs h42 h34 h39
end
section
open Go.RowKit
def selK:RowK Sel where
 T:=35
 S:=31
 n:=8
 bytes:=64
 zero:=.agg #[.int .i64 0,.string ⟨#[]⟩,.int .i64 0,.int .i64 0,.int .i64 0,.bool false,.bool false,.int .i64 0]
 enc:=fun s=>[.int .i64 s.kind,.string s.name,.int .i64 s.index,.int .i64 s.start,.int .i64 s.en,.bool s.hs,.bool s.he,.int .i64 s.stride]
 pos:=by decide
 len:=fun _=>rfl
 one:=fun s u h=>by simp at h;rcases h with rfl|rfl|rfl|rfl|rfl|rfl|rfl|rfl<;>rfl
 under:=Tryz.underlying31
 info:=by kernel_rfl
 zlen:=rfl
 small:=by decide
theorem GRow.keep {α:Type} {K:RowK α} {w w':World} {base B:Nat} {v:Value} {d:List α} (h:GRow K w base v d) (hb:Below B w w') (hB:w.heap.size≤B):GRow K w' base v d :=
 h.stay fun g hg=>hb.block g (Nat.lt_of_lt_of_le (h.low hg).2 hB)
theorem new_sel (w:World) (x:Sel):RdG selK (w.alloc (.cells #[.int .i64 x.kind,.string x.name,.int .i64 x.index,.int .i64 x.start,.int .i64 x.en,.bool x.hs,.bool x.he,.int .i64 x.stride] 35)) (some ⟨w.heap.size,0,none⟩) 1 [x] :=
 (GRow.made (K:=selK) (base:=0) (l:=[x]) w _ rfl (show 1≤maxLen by decide) (Nat.zero_le _)).rd
theorem rsel_no {s:ByteArray} (h:selQ s.data.toList=none) (hs:s.size≤1000000) (w:World) :
   Calls Tryz.prog 58 #[.string s] w fun e w' => ∃ x:Sel,e=.returned (.tuple #[.agg #[.int .i64 x.kind,.string x.name,.int .i64 x.index,.int .i64 x.start,.int .i64 x.en,.bool x.hs,.bool x.he,.int .i64 x.stride],.int .i64 0])∧Below w.heap.size w w':=by
 refine (rselector_any s w hs).mono fun e w' he => ?_
 unfold SeEnd at he
 rw[h] at he
 obtain ⟨⟨x,he⟩,hb⟩:=he
 exact ⟨x,he,hb⟩
theorem rsel_yes {s:ByteArray} {x:Sel} {n:Nat} (h:selQ s.data.toList=some (x,n)) (hs:s.size≤1000000) (w:World) :
   Calls Tryz.prog 58 #[.string s] w fun e w'=>e=.returned (.tuple #[.agg #[.int .i64 x.kind,.string x.name,.int .i64 x.index,.int .i64 x.start,.int .i64 x.en,.bool x.hs,.bool x.he,.int .i64 x.stride],.int .i64 n])∧Below w.heap.size w w':=by
 refine (rselector_any s w hs).mono fun e w' he => ?_
 unfold SeEnd at he
 rw[h] at he
 exact he
theorem brkGo_on (l:List UInt8) (f k:Nat) (acc:List Sel) (r1 p:Nat) (h1:runB (l.drop k)=r1) (hp:k+r1=p):brkGo l (f+1) k acc=match selQ (l.drop p) with
   | none=>none
   | some (x,n) =>
     if (l.drop (p+n+runB (l.drop (p+n)))).head?=some 93 then some (acc++[x],p+n+runB (l.drop (p+n))+1)
     else if (l.drop (p+n+runB (l.drop (p+n)))).head?=some 44 then brkGo l f (p+n+runB (l.drop (p+n))+1) (acc++[x])
     else none:=by
 subst h1 hp
 rfl
def BrEnd (l:List UInt8) (W:World) (e:Ending) (w':World):Prop :=
 (match brkQ l with
   | none=>e=.returned (.tuple #[.slice none 0 0,.int .i64 0])
   | some (xs,n) => ∃ v,e=.returned (.tuple #[v,.int .i64 n])∧GRow selK w' W.heap.size v xs∧xs.length≤l.length)∧Below W.heap.size W w'
theorem BrEnd.no {l:List UInt8} {W w':World} (h:brkQ l=none) (hb:Below W.heap.size W w'):BrEnd l W (.returned (.tuple #[.slice none 0 0,.int .i64 0])) w':=by
 unfold BrEnd;rw[h];exact ⟨rfl,hb⟩
theorem BrEnd.yes {l:List UInt8} {W w':World} {xs:List Sel} {n:Nat} {k:Int} {v:Value} (h:brkQ l=some (xs,n)) (hk:(n:Int)=k) (hr:GRow selK w' W.heap.size v xs) (hl:xs.length≤l.length) (hb:Below W.heap.size W w'):BrEnd l W (.returned (.tuple #[v,.int .i64 k])) w':=by
 unfold BrEnd;rw[h,← hk];exact ⟨⟨v,rfl,hr,hl⟩,hb⟩
def RelBr (s:ByteArray) (W:World) (vo va:Value) (wr:World):Prop :=
 ∃ (k f:Nat) (acc:List Sel) (V:Value),V=vo∧1≤k∧k≤s.size∧va=.int .i64 k∧GRow selK wr W.heap.size vo acc∧Below W.heap.size W wr∧acc.length+1≤k∧brkGo s.data.toList f k acc=brkQ s.data.toList∧s.size<f+k
theorem rbracketed_any (s:ByteArray) (W:World) (hs:s.size≤1000000) (h0:0<s.size) :
   Calls Tryz.prog 45 #[.string s] W (BrEnd s.data.toList W):=by
 go_enter Tryz.func45,Tryz.ntmps45
 go_wp2
 go_loopw [4,5] (fun vo va wr=>RelBr s W vo va wr) (fun _ va _=>s.size+1-(intOf va).toNat)
 case atStart=>exact ⟨1,s.size+1,[],_,rfl,Nat.le_refl _,h0,rfl,GRow.made (K:=selK) W #[] rfl (by simp[maxLen]) (Nat.le_refl _),below1 _ _,by simp,rfl,by omega⟩
 case round =>
   obtain ⟨k,f,acc,V,rfl,hk1,hks,rfl,hrow,hb,hal,hgo,hf⟩:=hrel
   obtain ⟨f,rfl⟩:∃ g,f=g+1:=⟨f-1,by omega⟩
   obtain ⟨r1,hr1⟩:∃ r1,runB (s.data.toList.drop k)=r1:=⟨_,rfl⟩
   obtain ⟨p,hp⟩:∃ p,k+r1=p:=⟨_,rfl⟩
   have hle_p:p≤s.size:=by have:=runB_in s k r1 hks hr1;omega
   rw[brkGo_on _ _ _ _ r1 p hr1 hp] at hgo
   have K1:=hid (fun w=>blk_at hks hs hr1 w)
   have sA:(k:Int)≤s.size:=by omega
   have sB:(p:Int)≤s.size:=by omega
   have eA:(k:Int)+r1=p:=by omega
   have htp:=tail13 s p hle_p
   have hzp:=tail_size s p hle_p
   have HB:=hid hb
   have HROW:=hid hrow
   cases hx:selQ (s.data.toList.drop p) with
   | none =>
     rw[hx] at hgo
     have HN:=hid (show brkQ s.data.toList=none from hgo.symm)
     have KX:=hid (fun w=>rsel_no (s:=s.extract p s.size) (by rw[htp];exact hx) (by omega) w)
     clear hgo hx hrow hb htp hzp
     go_wp2_with (first
       | (go_at_call 27;with_reducible refine (K1.out _).mono ?_;rintro e w' ⟨rfl,rfl⟩)
       | (go_at_call 58;with_reducible refine (KX.out _).mono ?_;rintro e w1 ⟨x,rfl,hb1⟩;have HB1:=hid (fun o=>(HB.out.trans (hb1.mono HB.out.size)).alloc (Nat.le_trans HB.out.size hb1.size) o);clear hb1))
     go_ret2
     exact BrEnd.no HN.out (HB1.out _)
   | some y =>
     obtain ⟨x,n⟩:=y
     obtain ⟨hn1,hn2⟩:=selQ_in hx
     rw[List.length_drop] at hn2
     have hn2:n≤s.size-p:=hn2
     obtain ⟨q,hq⟩:∃ q,p+n=q:=⟨_,rfl⟩
     obtain ⟨r2,hr2⟩:∃ r2,runB (s.data.toList.drop q)=r2:=⟨_,rfl⟩
     obtain ⟨u,hu⟩:∃ u,q+r2=u:=⟨_,rfl⟩
     have hle_q:q≤s.size:=by omega
     have hle_u:u≤s.size:=by have:=runB_in s q r2 hle_q hr2;omega
     have hgo:(if (s.data.toList.drop u).head?=some 93 then some (acc++[x],u+1) else if (s.data.toList.drop u).head?=some 44 then brkGo s.data.toList f (u+1) (acc++[x]) else none)=brkQ s.data.toList:=by
       rw[← hgo,hx]
       show _=if (s.data.toList.drop (p+n+runB (s.data.toList.drop (p+n)))).head?=some 93 then _ else _
       rw[hq,hr2,hu]
     have KX:=hid (fun w=>rsel_yes (s:=s.extract p s.size) (by rw[htp];exact hx) (by omega) w)
     have K2:=hid (fun w=>blk_at hle_q hs hr2 w)
     have sC:(q:Int)≤s.size:=by omega
     have sD:(u:Int)≤s.size:=by omega
     have eB:(p:Int)+n=q:=by omega
     have eC:(q:Int)+r2=u:=by omega
     have nI:((n:Int)==0)=false:=beq_eq_false_iff_ne.2 (by omega)
     have hak:acc.length≤1000000:=by omega
     have hlen:(acc++[x]).length≤s.size:=by rw[List.length_append];show acc.length+1≤_;omega
     have HLEN:=hid hlen
     have HLOW:=hid (fun g' hg'=>(hrow.low (g:=g') hg').1)
     clear hx hrow hb htp hzp hlen
     have harm:True:=trivial
     by_cases h93:(s.data.toList.drop u).head?=some 93
     ·rw [if_pos h93] at hgo
      have HG:=hid hgo.symm
      have C1:=hid (fun w=>beg_at (s:=s) (p:=u) 93 93 rfl true hle_u hs (decide_eq_true h93) w)
      clear hgo h93
      go_wp2_with (first
        | (go_at_call 27;with_reducible refine (K1.out _).mono ?_;rintro e w' ⟨rfl,rfl⟩)
        | (go_at_call 27;with_reducible refine (K2.out _).mono ?_;rintro e w' ⟨rfl,rfl⟩)
        | (go_at_call 26;with_reducible refine (C1.out _).mono ?_;rintro e w' ⟨rfl,rfl⟩)
        | (go_at_call 58
           go_must (
             with_reducible refine (KX.out _).mono ?_
             rintro e w1 ⟨rfl,hb1⟩
             have hb2:=(hb1.trans ((below1 w1 (.cells #[.int .i64 x.kind,.string x.name,.int .i64 x.index,.int .i64 x.start,.int .i64 x.en,.bool x.hs,.bool x.he,.int .i64 x.stride] 35)).mono hb1.size))
             have o2:=Own.fresh w1 35 #[.int .i64 x.kind,.string x.name,.int .i64 x.index,.int .i64 x.start,.int .i64 x.en,.bool x.hs,.bool x.he,.int .i64 x.stride]
             have a0:=o2.at 0
             have a1:=o2.at 1
             have a2:=o2.at 2
             have a3:=o2.at 3
             have a4:=o2.at 4
             have a5:=o2.at 5
             have a6:=o2.at 6
             have a7:=o2.at 7
             simp at a0 a1 a2 a3 a4 a5 a6 a7
             have HB2:=hid (fun o=>hb2.alloc hb2.size o)
             have hnew:=new_sel (w1.alloc (.cells #[.int .i64 x.kind,.string x.name,.int .i64 x.index,.int .i64 x.start,.int .i64 x.en,.bool x.hs,.bool x.he,.int .i64 x.stride] 35)) x
             have hz2:(w1.alloc (.cells #[.int .i64 x.kind,.string x.name,.int .i64 x.index,.int .i64 x.start,.int .i64 x.en,.bool x.hs,.bool x.he,.int .i64 x.stride] 35)).heap.size=w1.heap.size+1:=by simp
             rw[hz2] at hnew
             have HNEW:=hid hnew
             clear hb1 hb2 o2 hnew hz2))
        | (at_builtin
           go_must (
             refine row_append (K:=selK) _ rfl (.tmp 24) (.tmp 26) rfl W.heap.size _ acc rfl (HROW.out.keep (HB2.out _) (Nat.le_refl _)) _ 1 1 [x] rfl HNEW.out (by omega) (Nat.le_trans HB.out.size (HB2.out _).size) ?_
             intro v4 w4 row4 grown4 at4
             have HB4:=hid (below_grown (HB.out.trans ((HB2.out _).mono HB.out.size)) grown4 (Nat.le_trans HB.out.size (HB2.out _).size) HLOW.out)
             have R4:=hid row4
             clear grown4 at4 row4)))
      go_ret2
      exact BrEnd.yes HG.out (by omega) R4.out HLEN.out HB4.out
     ·rw [if_neg h93] at hgo
      have C1:=hid (fun w=>beg_at (s:=s) (p:=u) 93 93 rfl false hle_u hs (decide_eq_false h93) w)
      by_cases h44:(s.data.toList.drop u).head?=some 44
      ·rw [if_pos h44] at hgo
       have HG:=hid hgo
       have hult:=head_lt h44
       have C2:=hid (fun w=>beg_at (s:=s) (p:=u) 44 44 rfl true hle_u hs (decide_eq_true h44) w)
       clear hgo h93 h44
       go_wp2_with (first
         | (go_at_call 27;with_reducible refine (K1.out _).mono ?_;rintro e w' ⟨rfl,rfl⟩)
         | (go_at_call 27;with_reducible refine (K2.out _).mono ?_;rintro e w' ⟨rfl,rfl⟩)
         | (go_at_call 26;with_reducible refine (C1.out _).mono ?_;rintro e w' ⟨rfl,rfl⟩)
         | (go_at_call 26;with_reducible refine (C2.out _).mono ?_;rintro e w' ⟨rfl,rfl⟩)
         | (go_at_call 58
            go_must (
              with_reducible refine (KX.out _).mono ?_
              rintro e w1 ⟨rfl,hb1⟩
              have hb2:=(hb1.trans ((below1 w1 (.cells #[.int .i64 x.kind,.string x.name,.int .i64 x.index,.int .i64 x.start,.int .i64 x.en,.bool x.hs,.bool x.he,.int .i64 x.stride] 35)).mono hb1.size))
              have o2:=Own.fresh w1 35 #[.int .i64 x.kind,.string x.name,.int .i64 x.index,.int .i64 x.start,.int .i64 x.en,.bool x.hs,.bool x.he,.int .i64 x.stride]
              have a0:=o2.at 0
              have a1:=o2.at 1
              have a2:=o2.at 2
              have a3:=o2.at 3
              have a4:=o2.at 4
              have a5:=o2.at 5
              have a6:=o2.at 6
              have a7:=o2.at 7
              simp at a0 a1 a2 a3 a4 a5 a6 a7
              have HB2:=hid (fun o=>hb2.alloc hb2.size o)
              have hnew:=new_sel (w1.alloc (.cells #[.int .i64 x.kind,.string x.name,.int .i64 x.index,.int .i64 x.start,.int .i64 x.en,.bool x.hs,.bool x.he,.int .i64 x.stride] 35)) x
              have hz2:(w1.alloc (.cells #[.int .i64 x.kind,.string x.name,.int .i64 x.index,.int .i64 x.start,.int .i64 x.en,.bool x.hs,.bool x.he,.int .i64 x.stride] 35)).heap.size=w1.heap.size+1:=by simp
              rw[hz2] at hnew
              have HNEW:=hid hnew
              clear hb1 hb2 o2 hnew hz2))
         | (at_builtin
            go_must (
              refine row_append (K:=selK) _ rfl (.tmp 24) (.tmp 26) rfl W.heap.size _ acc rfl (HROW.out.keep (HB2.out _) (Nat.le_refl _)) _ 1 1 [x] rfl HNEW.out (by omega) (Nat.le_trans HB.out.size (HB2.out _).size) ?_
              intro v4 w4 row4 grown4 at4
              have HB4:=hid (below_grown (HB.out.trans ((HB2.out _).mono HB.out.size)) grown4 (Nat.le_trans HB.out.size (HB2.out _).size) HLOW.out)
              have R4:=hid row4
              clear grown4 at4 row4)))
       go_roundw
       case rel=>exact ⟨u+1,f,acc++[x],_,rfl,by omega,by omega,by go_num,R4.out,HB4.out,by rw[List.length_append];show acc.length+1+1≤_;omega,HG.out,by omega⟩
       case measure=>simp[intOf];omega
      ·rw [if_neg h44] at hgo
       have HN:=hid hgo.symm
       have C2:=hid (fun w=>beg_at (s:=s) (p:=u) 44 44 rfl false hle_u hs (decide_eq_false h44) w)
       clear hgo h93 h44
       go_wp2_with (first
         | (go_at_call 27;with_reducible refine (K1.out _).mono ?_;rintro e w' ⟨rfl,rfl⟩)
         | (go_at_call 27;with_reducible refine (K2.out _).mono ?_;rintro e w' ⟨rfl,rfl⟩)
         | (go_at_call 26;with_reducible refine (C1.out _).mono ?_;rintro e w' ⟨rfl,rfl⟩)
         | (go_at_call 26;with_reducible refine (C2.out _).mono ?_;rintro e w' ⟨rfl,rfl⟩)
         | (go_at_call 58
            go_must (
              with_reducible refine (KX.out _).mono ?_
              rintro e w1 ⟨rfl,hb1⟩
              have hb2:=(hb1.trans ((below1 w1 (.cells #[.int .i64 x.kind,.string x.name,.int .i64 x.index,.int .i64 x.start,.int .i64 x.en,.bool x.hs,.bool x.he,.int .i64 x.stride] 35)).mono hb1.size))
              have o2:=Own.fresh w1 35 #[.int .i64 x.kind,.string x.name,.int .i64 x.index,.int .i64 x.start,.int .i64 x.en,.bool x.hs,.bool x.he,.int .i64 x.stride]
              have a0:=o2.at 0
              have a1:=o2.at 1
              have a2:=o2.at 2
              have a3:=o2.at 3
              have a4:=o2.at 4
              have a5:=o2.at 5
              have a6:=o2.at 6
              have a7:=o2.at 7
              simp at a0 a1 a2 a3 a4 a5 a6 a7
              have HB2:=hid (fun o=>hb2.alloc hb2.size o)
              have hnew:=new_sel (w1.alloc (.cells #[.int .i64 x.kind,.string x.name,.int .i64 x.index,.int .i64 x.start,.int .i64 x.en,.bool x.hs,.bool x.he,.int .i64 x.stride] 35)) x
              have hz2:(w1.alloc (.cells #[.int .i64 x.kind,.string x.name,.int .i64 x.index,.int .i64 x.start,.int .i64 x.en,.bool x.hs,.bool x.he,.int .i64 x.stride] 35)).heap.size=w1.heap.size+1:=by simp
              rw[hz2] at hnew
              have HNEW:=hid hnew
              clear hb1 hb2 o2 hnew hz2))
         | (at_builtin
            go_must (
              refine row_append (K:=selK) _ rfl (.tmp 24) (.tmp 26) rfl W.heap.size _ acc rfl (HROW.out.keep (HB2.out _) (Nat.le_refl _)) _ 1 1 [x] rfl HNEW.out (by omega) (Nat.le_trans HB.out.size (HB2.out _).size) ?_
              intro v4 w4 row4 grown4 at4
              have HB4:=hid (below_grown (HB.out.trans ((HB2.out _).mono HB.out.size)) grown4 (Nat.le_trans HB.out.size (HB2.out _).size) HLOW.out)
              clear grown4 at4 row4)))
       go_ret2
       exact BrEnd.no HN.out HB4.out
end
section
open Go.RowKit
theorem ba_list (s:ByteArray):(⟨s.data.toList.toArray⟩:ByteArray)=s:=by simp
theorem rbr_no {s:ByteArray} (h:brkQ s.data.toList=none) (hs:s.size≤1000000) (h0:0<s.size) (w:World) :
   Calls Tryz.prog 45 #[.string s] w fun e w'=>e=.returned (.tuple #[.slice none 0 0,.int .i64 0])∧Below w.heap.size w w':=by
 refine (rbracketed_any s w hs h0).mono fun e w' he => ?_
 unfold BrEnd at he
 rw[h] at he
 exact he
theorem rbr_yes {s:ByteArray} {xs:List Sel} {n:Nat} (h:brkQ s.data.toList=some (xs,n)) (hs:s.size≤1000000) (h0:0<s.size) (w:World) :
   Calls Tryz.prog 45 #[.string s] w fun e w' => ∃ A L c,e=.returned (.tuple #[.slice A L c,.int .i64 n])∧GRow selK w' w.heap.size (.slice A L c) xs∧Below w.heap.size w w':=by
 refine (rbracketed_any s w hs h0).mono fun e w' he => ?_
 unfold BrEnd at he
 rw[h] at he
 obtain ⟨⟨v,he,hr,_⟩,hb⟩:=he
 obtain ⟨A,c,rfl,_⟩:=hr.form
 exact ⟨A,_,c,he,hr,hb⟩
theorem brkGo_in (l:List UInt8):∀ (f k:Nat) (acc xs:List Sel) (n:Nat),k≤l.length→brkGo l f k acc=some (xs,n)→k+1≤n∧n≤l.length+1
 | 0,k,acc,xs,n,hk,h=>by cases h
 | f + 1, k,acc,xs,n,hk,h=>by
   have hr:=runB_le (l.drop k)
   rw[List.length_drop] at hr
   rw[brkGo_on l f k acc _ _ rfl rfl] at h
   split at h
   ·cases h
   ·rename_i x m hx
    have hm:=selQ_in hx
    rw[List.length_drop] at hm
    split at h
    ·rename_i hc
     have:=headL_lt hc
     injection h with h
     injection h with h1 h2
     omega
    ·split at h
     ·rename_i hc
      have hlt:=headL_lt hc
      have:=brkGo_in l f _ _ _ _ (by omega) h
      omega
     ·cases h
theorem brk_in {l:List UInt8} {xs:List Sel} {n:Nat} (hl:l.length≤1000000) (h:brkQ l=some (xs,n)):n≠0∧n≤2000000:=by
 unfold brkQ at h
 cases l with
 | nil =>
   have e:brkGo [] (([]:List UInt8).length+1) 1 []=none:=rfl
   rw[e] at h
   cases h
 | cons c t =>
   have:=brkGo_in (c :: t) _ 1 [] xs n (by simp) h
   omega
theorem dots_is {l:List UInt8} {k:Nat} (hk:k≤2) (hy:∀ i,i<k→l[i]?=some 46) (hn:k=2∨l[k]?≠some 46):dotsN l=k:=by
 unfold dotsN
 match k,hk with
 | 0,_ =>
   have h0:l.head?≠some 46:=by rw[List.head?_eq_getElem?];exact hn.resolve_left (by decide)
   rw[if_neg h0]
 | 1, _ =>
   have h0:l.head?=some 46:=by rw[List.head?_eq_getElem?];exact hy 0 (by decide)
   have h1:l.tail.head?≠some 46:=by
     rw[List.head?_eq_getElem?,List.getElem?_tail]
     exact hn.resolve_left (by decide)
   rw[if_pos h0,if_neg h1]
 | 2, _ =>
   have h0:l.head?=some 46:=by rw[List.head?_eq_getElem?];exact hy 0 (by decide)
   have h1:l.tail.head?=some 46:=by
     rw[List.head?_eq_getElem?,List.getElem?_tail]
     exact hy 1 (by decide)
   rw[if_pos h0,if_pos h1]
def SgB (W:World)(c0 c1:Value)(w:World):Prop:=Own w (W.heap.size+1) 33 #[c0,c1]∧Own w W.heap.size 33 #[.bool false,.slice none 0 0]∧Below W.heap.size W w
section
variable {W w w':World} {c0 c1:Value}
theorem SgB.start (W:World) (b:Bool):SgB W (.bool b) (.slice none 0 0) ((W.alloc (.cells #[.bool false,.slice none 0 0] 33)).alloc (.cells #[.bool b,.slice none 0 0] 33)):=by
 have e:(W.alloc (.cells #[.bool false,.slice none 0 0] 33)).heap.size=W.heap.size+1:=by simp
 refine ⟨?_,(Own.fresh W _ _).over _,((Below.refl _ W).alloc (Nat.le_refl _) _).alloc (by simp) _⟩
 have:=Own.fresh (W.alloc (.cells #[.bool false,.slice none 0 0] 33)) 33 #[.bool b,.slice none 0 0]
 rw[e] at this
 exact this
theorem SgB.on (h:SgB W c0 c1 w)(hb:Below w.heap.size w w'):SgB W c0 c1 w':=⟨h.1.stay hb h.1.inside,h.2.1.stay hb h.2.1.inside,h.2.2.trans (hb.mono h.2.2.size)⟩
theorem SgB.put (h:SgB W c0 c1 w) (u:Value):SgB W c0 u (w.setCell ⟨W.heap.size+1,1,none⟩ u) :=
 ⟨by simpa using h.1.put 1 u,h.2.1.past (p:=⟨W.heap.size+1,1,none⟩) (by show W.heap.size≠W.heap.size+1;omega) u,h.2.2.setCell (Nat.le_succ _) _⟩
theorem SgB.x0 (h:SgB W c0 c1 w):w.cell? ⟨W.heap.size+1,0,none⟩=some c0:=h.1.at 0
theorem SgB.x1 (h:SgB W c0 c1 w):w.cell? ⟨W.heap.size+1,1,none⟩=some c1:=h.1.at 1
theorem SgB.fx (h:SgB W c0 c1 w)(i:Nat):w.frozen? ⟨W.heap.size+1,i,none⟩=false:=h.1.free i
theorem SgB.z0 (h:SgB W c0 c1 w):w.cell? ⟨W.heap.size,0,none⟩=some (.bool false):=h.2.1.at 0
theorem SgB.z1 (h:SgB W c0 c1 w):w.cell? ⟨W.heap.size,1,none⟩=some (.slice none 0 0):=h.2.1.at 1
theorem SgB.fz (h:SgB W c0 c1 w)(i:Nat):w.frozen? ⟨W.heap.size,i,none⟩=false:=h.2.1.free i
theorem SgB.fin (h:SgB W c0 c1 w) (u0 u1:Value):Own ((w.setCell ⟨W.heap.size,0,none⟩ u0).setCell ⟨W.heap.size,1,none⟩ u1) W.heap.size 33 #[u0,u1]∧Below W.heap.size W ((w.setCell ⟨W.heap.size,0,none⟩ u0).setCell ⟨W.heap.size,1,none⟩ u1) :=
 ⟨by simpa using (h.2.1.put 0 u0).put 1 u1,(h.2.2.setCell (Nat.le_refl _) _).setCell (Nat.le_refl _) _⟩
end
theorem GRow.past {α:Type} {K:RowK α} {w:World} {base:Nat} {v:Value} {d:List α} (h:GRow K w base v d) {p:Addr} (hp:p.block<base) (u:Value):GRow K (w.setCell p u) base v d :=
 h.stay fun g hg=>Below.heap_setCell w p u g (by have:=(h.low hg).1;omega)
theorem seg2 (W:World)(o1 o2:Obj):Below W.heap.size W ((W.alloc o1).alloc o2):=((Below.refl _ W).alloc (Nat.le_refl _) o1).alloc (by simp) o2
theorem seg3 (W:World)(o1 o2 o3:Obj):Below W.heap.size W (((W.alloc o1).alloc o2).alloc o3):=(seg2 W o1 o2).alloc (by simp;omega) o3
theorem made2 (W:World) (o1 o2:Obj) (x:Sel):GRow selK (((W.alloc o1).alloc o2).alloc (.cells #[.int .i64 x.kind,.string x.name,.int .i64 x.index,.int .i64 x.start,.int .i64 x.en,.bool x.hs,.bool x.he,.int .i64 x.stride] 35)) W.heap.size (.slice (some ⟨W.heap.size+2,0,none⟩) 1 1) [x]:=by
 have hz:((W.alloc o1).alloc o2).heap.size=W.heap.size+2:=by simp
 have:=GRow.made (K:=selK) (base:=W.heap.size) (l:=[x]) ((W.alloc o1).alloc o2) #[.int .i64 x.kind,.string x.name,.int .i64 x.index,.int .i64 x.start,.int .i64 x.en,.bool x.hs,.bool x.he,.int .i64 x.stride] rfl (show 1≤maxLen by decide) (by rw[hz];omega)
 rw[hz] at this
 exact this
def SgEnd (l:List UInt8) (W:World) (e:Ending) (w':World):Prop :=
 (match sgmQ l with
   | none => ∃ b A L c,e=.returned (.tuple #[.agg #[.bool b,.slice A L c],.int .i64 0])
   | some (x,n) => ∃ v,e=.returned (.tuple #[.agg #[.bool x.deep,v],.int .i64 n])∧GRow selK w' W.heap.size v x.sels)∧Below W.heap.size W w'
theorem SgEnd.no {l:List UInt8} {W w':World} {b:Bool} {A:Option Addr} {L c:Nat} (h:sgmQ l=none) (hb:Below W.heap.size W w'):SgEnd l W (.returned (.tuple #[.agg #[.bool b,.slice A L c],.int .i64 0])) w':=by
 unfold SgEnd;rw[h];exact ⟨⟨b,A,L,c,rfl⟩,hb⟩
theorem SgEnd.yes {l:List UInt8} {W w':World} {x:Sgm} {n:Nat} {k:Int} {b:Bool} {v:Value} (h:sgmQ l=some (x,n)) (hk:(n:Int)=k) (hd:x.deep=b) (hr:GRow selK w' W.heap.size v x.sels) (hb:Below W.heap.size W w'):SgEnd l W (.returned (.tuple #[.agg #[.bool b,v],.int .i64 k])) w':=by
 unfold SgEnd;rw[h,← hk,← hd];exact ⟨⟨v,rfl,hr⟩,hb⟩
def RelDt (s:ByteArray) (W:World) (va:Value) (wr:World):Prop :=
 ∃ k:Nat,va=.int .i64 k∧k≤2∧k≤s.size∧(∀ i,i<k→s.data.toList[i]?=some 46)∧wr=W.alloc (.cells #[.bool false,.slice none 0 0] 33)
theorem rsegment_any (s:ByteArray) (W:World) (hs:s.size≤1000000) :
   Calls Tryz.prog 28 #[.string s] W (SgEnd s.data.toList W):=by
 go_enter Tryz.func28,Tryz.ntmps28
 go_wp2
 go_loopw [4] (fun va wr=>RelDt s W va wr) (fun va _=>2-(intOf va).toNat)
 case atStart=>exact ⟨0,rfl,by omega,by omega,fun i hi=>by omega,rfl⟩
 case round =>
   obtain ⟨k,rfl,hk2,hks,hdots,rfl⟩:=hrel
   by_cases hgo:k<2 ∧ ∃ h:k<s.size,s[k]=46
   ·obtain ⟨hlt2,hlt,h46⟩:=hgo
    have i1:(k:Int)<s.size:=by omega
    have i2:(k:Int)<2:=by omega
    have g46:((s[k].toNat:Int)==46)=true:=by rw[h46];rfl
    have HD:=hid (show ∀ i,i<k+1→s.data.toList[i]?=some 46 from fun i hi=>by
      rcases Nat.lt_or_ge i k with h|h
      ·exact hdots i h
      ·obtain rfl:i=k:=by omega
       rw[List.getElem?_eq_getElem (show i<s.data.toList.length from hlt)]
       exact congrArg some h46)
    clear hdots h46
    go_wp2
    go_roundw
    case rel=>exact ⟨k+1,by go_num,by omega,by omega,HD.out,rfl⟩
    case measure=>simp[intOf];omega
   have hdn:dotsN s.data.toList=k:=dots_is hk2 hdots (by
     by_cases h2:k=2
     ·exact .inl h2
     ·refine .inr fun e=>hgo ⟨by omega,?_⟩
      have hlt:k<s.data.toList.length:=(List.getElem?_eq_some_iff.1 e).1
      rw[List.getElem?_eq_getElem hlt] at e
      exact ⟨hlt,Option.some.inj e⟩)
   have hstop:(¬ (k:Int)<s.size)∨((k:Int)<s.size∧¬ (k:Int)<2)∨((k:Int)<s.size∧(k:Int)<2 ∧ ∀ h:k<s.size,((s[k].toNat:Int)==46)=false):=by
     by_cases h1:k<s.size
     ·by_cases h2:k<2
      ·exact .inr (.inr ⟨by omega,by omega,fun h=>byteI_ne (d:=46) (fun e=>hgo ⟨h2,h,e⟩)⟩)
      ·exact .inr (.inl ⟨by omega,by omega⟩)
     ·exact .inl (by omega)
   have hsg:sgmQ s.data.toList=(sgmR k (s.data.toList.drop k)).map fun p=>(⟨decide (k=2),p.1⟩,k+p.2):=by unfold sgmQ;rw[hdn]
   clear hgo hdots hdn
   obtain ⟨b,hb2⟩:∃ b,decide (k=2)=b:=⟨_,rfl⟩
   have hbI:((k:Int)==2)=b:=by
     rw[← hb2]
     by_cases h2:k=2
     ·rw[decide_eq_true h2,h2];rfl
     ·rw[decide_eq_false h2];exact beq_eq_false_iff_ne.2 (by omega)
   rw[hb2] at hsg
   have S0:=hid (SgB.start W b)
   have sK:(k:Int)≤s.size:=by omega
   have ht:=tail13 s k hks
   have hz:=tail_size s k hks
   have hle_k:=hks
   by_cases h91:(s.data.toList.drop k).head?=some 91∧k≠1
   ·obtain ⟨h91,hk1⟩:=h91
    have hR:sgmR k (s.data.toList.drop k)=brkQ (s.data.toList.drop k):=by unfold sgmR;rw[if_pos ⟨h91,hk1⟩]
    rw[hR] at hsg
    have hlt:=head_lt h91
    have C1:=hid (fun w=>beg_at (s:=s) (p:=k) 91 91 rfl true hle_k hs (decide_eq_true h91) w)
    have k1I:((k:Int) != 1)=true:=by rw[bne_iff_ne];omega
    clear hR h91
    cases hx:brkQ (s.data.toList.drop k) with
    | none =>
      rw[hx] at hsg
      have HQ:=hid (show sgmQ s.data.toList=none from hsg)
      have KB:=hid (fun w=>rbr_no (s:=s.extract k s.size) (by rw[ht];exact hx) (by omega) (by omega) w)
      clear hsg hx ht hz
      rcases hstop with hst|⟨hst,hst2⟩|⟨hst,hst2,hst3⟩
      ·omega
      all_goals
        (try have hst3:=hst3 (by omega))
        go_wp2_with (first
          | (go_at_call 26;with_reducible refine (C1.out _).mono ?_;rintro e w' ⟨rfl,rfl⟩)
          | (go_at_call 45;with_reducible refine (KB.out _).mono ?_;rintro e w1 ⟨rfl,hb1⟩;have h1:=S0.out.on hb1;have a1:=h1.x1;have f1:=h1.fx 1;have h2:=h1.put (.slice none 0 0);have x0:=h2.x0;have x1:=h2.x1;have z0:=h2.z0;have z1:=h2.z1;have y0:=h2.fz 0;have y1:=h2.fz 1;have S2:=hid h2;clear h1 h2 hb1))
        have HF:=S2.out.fin (.bool b) (.slice none 0 0)
        have m0:=HF.1.at 0
        have m1:=HF.1.at 1
        simp at m0 m1
        refine bodyPost_ret (by simp[results,Tryz.results28,go_sem,m0,m1];try rfl) rfl ?_
        exact SgEnd.no HQ.out HF.2
    | some q =>
      obtain ⟨xs,n⟩:=q
      rw[hx] at hsg
      have HQ:=hid (show sgmQ s.data.toList=some (⟨b,xs⟩,k+n) from hsg)
      have KB:=hid (fun w=>rbr_yes (s:=s.extract k s.size) (by rw[ht];exact hx) (by omega) (by omega) w)
      have hn:n≠0∧n≤2000000:=brk_in (by rw[List.length_drop];show s.size-k≤_;omega) hx
      have nI:((n:Int)==0)=false:=beq_eq_false_iff_ne.2 (by omega)
      have n9:(n:Int)≤2000000:=by omega
      clear hsg hx ht hz
      rcases hstop with hst|⟨hst,hst2⟩|⟨hst,hst2,hst3⟩
      ·omega
      all_goals
        (try have hst3:=hst3 (by omega))
        go_wp2_with (first
          | (go_at_call 26;with_reducible refine (C1.out _).mono ?_;rintro e w' ⟨rfl,rfl⟩)
          | (go_at_call 45;with_reducible refine (KB.out _).mono ?_;rintro e w1 ⟨A,L,c,rfl,hr1,hb1⟩;have h1:=S0.out.on hb1;have a1:=h1.x1;have f1:=h1.fx 1;have h2:=h1.put (.slice A L c);have x0:=h2.x0;have x1:=h2.x1;have z0:=h2.z0;have z1:=h2.z1;have y0:=h2.fz 0;have y1:=h2.fz 1;have S2:=hid h2;have R1:=hid hr1;clear h1 h2 hb1 hr1))
        have HF:=S2.out.fin (.bool b) (.slice A L c)
        have m0:=HF.1.at 0
        have m1:=HF.1.at 1
        simp at m0 m1
        refine bodyPost_ret (by simp[results,Tryz.results28,go_sem,m0,m1];try rfl) rfl ?_
        have hR:=R1.out
        have hzW:(((W.alloc (.cells #[.bool false,.slice none 0 0] 33)).alloc (.cells #[.bool b,.slice none 0 0] 33))).heap.size=W.heap.size+2:=by simp
        rw[hzW] at hR
        exact SgEnd.yes HQ.out (by omega) rfl ((((hR.past (p:=⟨W.heap.size+1,1,none⟩) (by show W.heap.size+1<_;omega) _).past (p:=⟨W.heap.size,0,none⟩) (by show W.heap.size<_;omega) _).past (p:=⟨W.heap.size,1,none⟩) (by show W.heap.size<_;omega) _).mono (by omega)) HF.2
   ·have hR : sgmR k (s.data.toList.drop k)=if k=0 then none else if (s.data.toList.drop k).head?=some 42 then some ([sqA],1) else if plnN false (s.data.toList.drop k)=0 then none else some ([sqN ((s.data.toList.drop k).take (plnN false (s.data.toList.drop k)))],plnN false (s.data.toList.drop k)):=by unfold sgmR;rw[if_neg h91]
    rw[hR] at hsg
    clear hR
    have h1:(s.data.toList.drop k).head?≠some 91∨(s.data.toList.drop k).head?=some 91∧k=1:=by
      by_cases h:(s.data.toList.drop k).head?=some 91
      ·exact .inr ⟨h,Classical.not_not.1 (fun hk=>h91 ⟨h,hk⟩)⟩
      ·exact .inl h
    clear h91
    by_cases hk0:k=0
    ·have HQ:=hid (show sgmQ s.data.toList=none by rw[hsg,if_pos hk0];rfl)
     have kI:¬ (k:Int)>0:=by omega
     have h91:(s.data.toList.drop k).head?≠some 91:=h1.elim id (fun h=>by omega)
     have C1:=hid (fun w=>beg_at (s:=s) (p:=k) 91 91 rfl false hle_k hs (decide_eq_false h91) w)
     have kI2:(k:Int)<2:=by omega
     clear hsg h1 h91 hk0 ht hz hb2
     have S1:=S0.out
     have a1:=S1.x1
     have f1:=S1.fx 1
     have x0:=S1.x0
     have z0:=S1.z0
     have z1:=S1.z1
     have y0:=S1.fz 0
     have y1:=S1.fz 1
     clear S1
     rcases hstop with hst|⟨hst,hst2⟩|⟨hst,hst2,hst3⟩
     ·go_wp2_with (go_at_call 26;with_reducible refine (C1.out _).mono ?_;rintro e w' ⟨rfl,rfl⟩)
      refine bodyPost_ret (by simp[results,Tryz.results28,go_sem];try rfl) rfl ?_
      exact SgEnd.no HQ.out (seg2 _ _ _)
     ·omega
     ·have hst3:=hst3 (by omega)
      go_wp2_with (go_at_call 26;with_reducible refine (C1.out _).mono ?_;rintro e w' ⟨rfl,rfl⟩)
      refine bodyPost_ret (by simp[results,Tryz.results28,go_sem];try rfl) rfl ?_
      exact SgEnd.no HQ.out (seg2 _ _ _)
    rw[if_neg hk0] at hsg
    have kI:(k:Int)>0:=by omega
    by_cases h42:(s.data.toList.drop k).head?=some 42
    ·rw [if_pos h42] at hsg
     have HQ:=hid (show sgmQ s.data.toList=some (⟨b,[sqA]⟩,k+1) from hsg)
     have h91:(s.data.toList.drop k).head?≠some 91:=fun h=>by rw[h42] at h;cases h
     have hlt:=head_lt h42
     have C1:=hid (fun w=>beg_at (s:=s) (p:=k) 91 91 rfl false hle_k hs (decide_eq_false h91) w)
     have C2:=hid (fun w=>beg_at (s:=s) (p:=k) 42 42 rfl true hle_k hs (decide_eq_true h42) w)
     clear hsg h91 h42 ht hz hb2 hk0 h1
     rcases hstop with hst|⟨hst,hst2⟩|⟨hst,hst2,hst3⟩
     ·omega
     all_goals
       (try have hst3:=hst3 (by omega))
       go_wp2_with (first
         | (go_at_call 26;with_reducible refine (C1.out _).mono ?_;rintro e w' ⟨rfl,rfl⟩)
         | (go_at_call 26;with_reducible refine (C2.out _).mono ?_;rintro e w' ⟨rfl,rfl⟩))
       refine bodyPost_ret (by simp[results,Tryz.results28,go_sem];try rfl) rfl ?_
       exact SgEnd.yes HQ.out (by omega) rfl (made2 W _ _ sqA) (seg3 _ _ _ _)
    ·rw [if_neg h42] at hsg
     have C2:=hid (fun w=>beg_at (s:=s) (p:=k) 42 42 rfl false hle_k hs (decide_eq_false h42) w)
     have KP:=hid (fun w=>rplain_any (s.extract k s.size) w (by omega))
     rw[ht] at KP
     have hpl:=plnN_le false (s.data.toList.drop k)
     rw[List.length_drop] at hpl
     have hpl:plnN false (s.data.toList.drop k)≤s.size-k:=hpl
     have hh3:=part14 (s.extract k s.size) 0 (plnN false (s.data.toList.drop k)) (by omega)
     rw[Nat.zero_add,List.drop_zero,ht] at hh3
     obtain ⟨n,hn⟩:∃ n,plnN false (s.data.toList.drop k)=n:=⟨_,rfl⟩
     rw[hn] at hsg KP hpl hh3
     have nI9:(n:Int)≤s.size-k:=by omega
     have nI8:(n:Int)≤(s.extract k s.size).size:=by omega
     have HX:=hid (show sqN ((s.data.toList.drop k).take n)=⟨0,(s.extract k s.size).extract 0 n,0,0,0,false,false,0⟩ by unfold sqN;rw[← hh3,ba_list])
     clear h42 hh3 hb2 hk0 hn
     have hC1:(∃ b1:Bool,(∀ w,Calls Tryz.prog 26 #[.string (s.extract k s.size),.int .u8 91] w fun e w'=>e=.returned (.bool b1)∧w=w')∧(b1=true→((k:Int) != 1)=false)):=by
       rcases h1 with h|⟨h,hk⟩
       ·exact ⟨false,fun w=>beg_at (s:=s) (p:=k) 91 91 rfl false hle_k hs (decide_eq_false h) w,fun h=>by cases h⟩
       ·exact ⟨true,fun w=>beg_at (s:=s) (p:=k) 91 91 rfl true hle_k hs (decide_eq_true h) w,fun _=>by rw[hk];rfl⟩
     clear h1
     obtain ⟨b1,c1,hb1⟩:=hC1
     have C1:=hid c1
     clear c1
     by_cases hn0:n=0
     ·rw [if_pos hn0] at hsg
      have HQ:=hid (show sgmQ s.data.toList=none from hsg)
      have nI:((n:Int)==0)=true:=by rw[hn0];rfl
      clear hsg ht hz hn0
      cases b1
      all_goals
        (try have hb1:=hb1 rfl)
        rcases hstop with hst|⟨hst,hst2⟩|⟨hst,hst2,hst3⟩
        all_goals
          (try have hst3:=hst3 (by omega))
          go_wp2_with (first
            | (go_at_call 26;with_reducible refine (C1.out _).mono ?_;rintro e w' ⟨rfl,rfl⟩)
            | (go_at_call 26;with_reducible refine (C2.out _).mono ?_;rintro e w' ⟨rfl,rfl⟩)
            | (go_at_call 46;with_reducible refine (KP.out _).mono ?_;rintro e w' ⟨rfl,rfl⟩))
          refine bodyPost_ret (by simp[results,Tryz.results28,go_sem];try rfl) rfl ?_
          exact SgEnd.no HQ.out (seg3 _ _ _ _)
     ·rw [if_neg hn0] at hsg
      have HQ:=hid (show sgmQ s.data.toList=some (⟨b,[⟨0,(s.extract k s.size).extract 0 n,0,0,0,false,false,0⟩]⟩,k+n) by rw[hsg,HX.out];rfl)
      have nI:((n:Int)==0)=false:=beq_eq_false_iff_ne.2 (by omega)
      clear hsg ht hz hn0
      cases b1
      all_goals
        (try have hb1:=hb1 rfl)
        rcases hstop with hst|⟨hst,hst2⟩|⟨hst,hst2,hst3⟩
        all_goals
          (try have hst3:=hst3 (by omega))
          go_wp2_with (first
            | (go_at_call 26;with_reducible refine (C1.out _).mono ?_;rintro e w' ⟨rfl,rfl⟩)
            | (go_at_call 26;with_reducible refine (C2.out _).mono ?_;rintro e w' ⟨rfl,rfl⟩)
            | (go_at_call 46;with_reducible refine (KP.out _).mono ?_;rintro e w' ⟨rfl,rfl⟩))
          refine bodyPost_ret (by simp[results,Tryz.results28,go_sem];try rfl) rfl ?_
          exact SgEnd.yes HQ.out (by omega) rfl (made2 W _ _ _) (seg3 _ _ _ _)
end
section
open Go.RowKit
structure SegV where
 deep:Bool
 A:Option Addr
 n:Nat
 c:Nat
def sgmK:RowK SegV where
 T:=33
 S:=23
 n:=2
 bytes:=32
 zero:=.agg #[.bool false,.slice none 0 0]
 enc:=fun s=>[.bool s.deep,.slice s.A s.n s.c]
 pos:=by decide
 len:=fun _=>rfl
 one:=fun s u h=>by simp at h;rcases h with rfl|rfl<;>rfl
 under:=Tryz.underlying23
 info:=by kernel_rfl
 zlen:=rfl
 small:=by decide
def QIs (w:World) (base:Nat) (v:Value) (xs:List Sgm):Prop :=
 ∃ ss:List SegV,GRow sgmK w base v ss∧ss.length=xs.length ∧ ∀ (i:Nat) (s:SegV) (x:Sgm),ss[i]?=some s→xs[i]?=some x→s.deep=x.deep∧GRow selK w base (.slice s.A s.n s.c) x.sels
theorem QIs.keep {w w':World} {base B:Nat} {v:Value} {xs:List Sgm} (h:QIs w base v xs) (hb:Below B w w') (hB:w.heap.size≤B):QIs w' base v xs:=by
 obtain ⟨ss,h1,h2,h3⟩:=h
 exact ⟨ss,h1.keep hb hB,h2,fun i s x hs hx=>⟨(h3 i s x hs hx).1,(h3 i s x hs hx).2.keep hb hB⟩⟩
theorem row_ne {w:World} {base:Nat} {v u:Value} {ss:List SegV} {xs:List Sel} (h:GRow sgmK w base v ss) (h':GRow selK w base u xs) {g:Nat} (hg:v.ownBlock=some g) (hu:u.ownBlock=some g):False:=by
 rcases h.2 with ⟨rfl,_⟩|⟨g1,c1,cur1,rfl,_,hh1,_⟩
 ·simp[Value.ownBlock] at hg
 rcases h'.2 with ⟨rfl,_⟩|⟨g2,c2,cur2,rfl,_,hh2,_⟩
 ·simp[Value.ownBlock] at hu
 have e1:g1=g:=by simpa [Value.ownBlock] using hg
 have e2:g2=g:=by simpa [Value.ownBlock] using hu
 subst e1 e2
 rw[hh1] at hh2
 have:=Option.some.inj hh2
 injection this with _ ht _
 exact absurd ht (by decide)
theorem brkGo_low (l:List UInt8):∀ (f k:Nat) (acc xs:List Sel) (n:Nat),k≤l.length→brkGo l f k acc=some (xs,n)→k+1≤n∧n≤l.length
 | 0,k,acc,xs,n,hk,h=>by cases h
 | f + 1, k,acc,xs,n,hk,h=>by
   have hr:=runB_le (l.drop k)
   rw[List.length_drop] at hr
   rw[brkGo_on l f k acc _ _ rfl rfl] at h
   split at h
   ·cases h
   ·rename_i x m hx
    have hm:=selQ_in hx
    rw[List.length_drop] at hm
    split at h
    ·rename_i hc
     have:=headL_lt hc
     injection h with h
     injection h with h1 h2
     omega
    ·split at h
     ·rename_i hc
      have hlt:=headL_lt hc
      have:=brkGo_low l f _ _ _ _ (by omega) h
      omega
     ·cases h
theorem sgmR_in {p:Nat} {r:List UInt8} {xs:List Sel} {n:Nat} (h:sgmR p r=some (xs,n)):1≤n∧n≤r.length:=by
 unfold sgmR at h
 split at h
 ·rename_i hc
  have hlt:=headL_lt (l:=r) (p:=0) hc.1
  have:=brkGo_low r _ 1 [] xs n (by omega) h
  omega
 split at h
 ·cases h
 split at h
 ·rename_i hc
  have hlt:=headL_lt (l:=r) (p:=0) hc
  injection h with h
  injection h with h1 h2
  omega
 split at h
 ·cases h
 ·rename_i hn
  have:=plnN_le false r
  injection h with h
  injection h with h1 h2
  omega
theorem sgmQ_in {l:List UInt8} {x:Sgm} {n:Nat} (h:sgmQ l=some (x,n)):1≤n∧n≤l.length:=by
 unfold sgmQ at h
 cases hr:sgmR (dotsN l) (l.drop (dotsN l)) with
 | none=>rw[hr] at h;cases h
 | some q =>
   rw[hr] at h
   have hq:=sgmR_in (xs:=q.1) (n:=q.2) hr
   rw[List.length_drop] at hq
   injection h with h
   injection h with h1 h2
   omega
theorem rsg_no {s:ByteArray} (h:sgmQ s.data.toList=none) (hs:s.size≤1000000) (w:World) :
   Calls Tryz.prog 28 #[.string s] w fun e w' => ∃ b A L c,e=.returned (.tuple #[.agg #[.bool b,.slice A L c],.int .i64 0])∧Below w.heap.size w w':=by
 refine (rsegment_any s w hs).mono fun e w' he => ?_
 unfold SgEnd at he
 rw[h] at he
 obtain ⟨⟨b,A,L,c,he⟩,hb⟩:=he
 exact ⟨b,A,L,c,he,hb⟩
theorem rsg_yes {s:ByteArray} {x:Sgm} {n:Nat} (h:sgmQ s.data.toList=some (x,n)) (hs:s.size≤1000000) (w:World) :
   Calls Tryz.prog 28 #[.string s] w fun e w' => ∃ A L c,e=.returned (.tuple #[.agg #[.bool x.deep,.slice A L c],.int .i64 n])∧GRow selK w' w.heap.size (.slice A L c) x.sels∧Below w.heap.size w w':=by
 refine (rsegment_any s w hs).mono fun e w' he => ?_
 unfold SgEnd at he
 rw[h] at he
 obtain ⟨⟨v,he,hr⟩,hb⟩:=he
 obtain ⟨A,c,rfl,_⟩:=hr.form
 exact ⟨A,_,c,he,hr,hb⟩
theorem new_seg (w:World) (b:Bool) (A:Option Addr) (n c:Nat):RdG sgmK (w.alloc (.cells #[.bool b,.slice A n c] 33)) (some ⟨w.heap.size,0,none⟩) 1 [⟨b,A,n,c⟩] :=
 (GRow.made (K:=sgmK) (base:=0) (l:=[⟨b,A,n,c⟩]) w _ rfl (show 1≤maxLen by decide) (Nat.zero_le _)).rd
theorem queGo_on (f:Nat) (l:List UInt8) (acc:List Sgm):queGo (f+1) l acc=if l=[] then some acc else match sgmQ (l.drop (runB l)) with
   | none=>none
   | some (x,n)=>queGo f (l.drop (runB l+n)) (acc++[x]):=rfl
def QpEnd (l:List UInt8) (W:World) (e:Ending) (w':World):Prop :=
 (match queQ l with
   | none=>e=.returned (.tuple #[.slice none 0 0,.bool false])
   | some xs => ∃ v,e=.returned (.tuple #[v,.bool true])∧QIs w' W.heap.size v xs∧xs.length≤l.length)∧Below W.heap.size W w'
theorem QpEnd.no {l:List UInt8} {W w':World} (h:queQ l=none) (hb:Below W.heap.size W w'):QpEnd l W (.returned (.tuple #[.slice none 0 0,.bool false])) w':=by
 unfold QpEnd;rw[h];exact ⟨rfl,hb⟩
theorem QpEnd.yes {l:List UInt8} {W w':World} {xs:List Sgm} {v:Value} (h:queQ l=some xs) (hr:QIs w' W.heap.size v xs) (hl:xs.length≤l.length) (hb:Below W.heap.size W w'):QpEnd l W (.returned (.tuple #[v,.bool true])) w':=by
 unfold QpEnd;rw[h];exact ⟨⟨v,rfl,hr,hl⟩,hb⟩
theorem QIs.snoc {w w':World} {base:Nat} {v v':Value} {acc:List Sgm} {x:Sgm} {ss:List SegV} {A:Option Addr} {n c:Nat}
   (h1:GRow sgmK w base v ss) (h2:ss.length=acc.length) (h3:∀ (i:Nat) (s:SegV) (y:Sgm),ss[i]?=some s→acc[i]?=some y→s.deep=y.deep∧GRow selK w base (.slice s.A s.n s.c) y.sels)
   (hx:GRow selK w base (.slice A n c) x.sels) (hrow:GRow sgmK w' base v' (ss++[⟨x.deep,A,n,c⟩])) (hg:w.grownBy w' v.ownBlock) (hbase:base≤w.heap.size):QIs w' base v' (acc++[x]):=by
 have hk:∀ {u:Value} {xs:List Sel},GRow selK w base u xs→GRow selK w' base u xs:=fun {u xs} hu=>hu.stay fun g hgu=>by
   have hlow:=hu.low hgu
   exact hg.block g hlow.2 (fun e=>row_ne h1 hu e.symm hgu)
 refine ⟨_,hrow,by simp[h2],fun i s y hs hy => ?_⟩
 rcases Nat.lt_or_ge i ss.length with h|h
 ·rw[List.getElem?_append_left h] at hs
  rw[List.getElem?_append_left (by omega)] at hy
  obtain ⟨e,hr⟩:=h3 i s y hs hy
  exact ⟨e,hk hr⟩
 ·have hi:i=ss.length:=by
    have:=(List.getElem?_eq_some_iff.1 hs).1
    simp at this
    omega
  subst hi
  rw[List.getElem?_append_right (Nat.le_refl _)] at hs
  rw[h2,List.getElem?_append_right (Nat.le_refl _)] at hy
  simp at hs hy
  subst hs hy
  exact ⟨rfl,hk hx⟩
end
section
open Go.RowKit
def RelQp (s:ByteArray) (W:World) (vo va:Value) (wr:World):Prop :=
 ∃ (k f:Nat) (acc:List Sgm) (V:Value),V=vo∧1≤k∧k≤s.size∧va=.int .i64 k∧QIs wr W.heap.size vo acc∧Below W.heap.size W wr∧acc.length+1≤k∧queGo f (s.data.toList.drop k) acc=queQ s.data.toList∧s.size<f+k
theorem rque_any (s:ByteArray) (W:World) (hs:s.size≤1000000) :
   Calls Tryz.prog 10 #[.string s] W (QpEnd s.data.toList W):=by
 have HBad:=hid (fun w=>rbad_any s w (by unfold maxLen;omega))
 have hque:=show queQ s.data.toList=(if badU s.data.toList ≠ -1∨s.data.toList.head?≠some 36 then none else queGo (s.data.toList.length+1) s.data.toList.tail []) from rfl
 by_cases hbad:badU s.data.toList = -1
 rotate_left
 ·have HN:=hid (show queQ s.data.toList=none by rw[hque,if_pos (.inl hbad)])
  have gI:((badU s.data.toList) != -1)=true:=by rw[bne_iff_ne];exact hbad
  clear hque hbad
  generalize badU s.data.toList=bu at *
  go_enter Tryz.func10,Tryz.ntmps10
  go_wp2_with (go_at_call 25;with_reducible refine (HBad.out _).mono ?_;rintro e w1 ⟨rfl,hb1⟩)
  go_ret2
  exact QpEnd.no HN.out hb1
 rw[hbad] at HBad
 by_cases h36:s.data.toList.head?=some 36
 rotate_left
 ·have HN:=hid (show queQ s.data.toList=none by rw[hque,if_pos (.inr h36)])
  have B1:=hid (fun w=>beg0 36 36 rfl false hs (decide_eq_false h36) w)
  clear hque h36 hbad
  go_enter Tryz.func10,Tryz.ntmps10
  go_wp2_with (first
    | (go_at_call 25;with_reducible refine (HBad.out _).mono ?_;rintro e w1 ⟨rfl,hb1⟩)
    | (go_at_call 26;with_reducible refine (B1.out _).mono ?_;rintro e w' ⟨rfl,rfl⟩))
  go_ret2
  exact QpEnd.no HN.out hb1
 rw[if_neg (fun h=>h.elim (fun h=>h hbad) (fun h=>h h36))] at hque
 have h0:0<s.size:=head_lt (p:=0) h36
 have B1:=hid (fun w=>beg0 36 36 rfl true hs (decide_eq_true h36) w)
 have HST:=hid (show queGo (s.size+1) (s.data.toList.drop 1) []=queQ s.data.toList by rw[hque];simp)
 clear hque h36 hbad
 go_enter Tryz.func10,Tryz.ntmps10
 go_wp2_with (first
   | (go_at_call 25;with_reducible refine (HBad.out _).mono ?_;rintro e w1 ⟨rfl,hb1⟩;have HB1:=hid hb1;clear hb1)
   | (go_at_call 26;with_reducible refine (B1.out _).mono ?_;rintro e w' ⟨rfl,rfl⟩))
 go_loopw [4,5] (fun vo va wr=>RelQp s W vo va wr) (fun _ va _=>s.size+1-(intOf va).toNat)
 case atStart =>
   refine ⟨1,s.size+1,[],_,rfl,Nat.le_refl _,h0,rfl,⟨[],GRow.made (K:=sgmK) _ #[] rfl (by simp[maxLen]) HB1.out.size,rfl,fun i s x hs=>by simp at hs⟩,HB1.out.alloc HB1.out.size _,by simp,HST.out,by omega⟩
 case round =>
   obtain ⟨k,f,acc,V,rfl,hk1,hks,rfl,hq,hb,hal,hgo,hf⟩:=hrel
   obtain ⟨f,rfl⟩:∃ g,f=g+1:=⟨f-1,by omega⟩
   rw[queGo_on] at hgo
   by_cases hlt:k<s.size
   rotate_left
   ·have hltI:¬ (k:Int)<s.size:=by omega
    rw[if_pos (List.drop_of_length_le (by show s.size≤k;omega))] at hgo
    have HG:=hid hgo.symm
    have HQ:=hid hq
    have HB:=hid hb
    have hle:acc.length≤s.size:=by omega
    have HLE:=hid hle
    clear hgo hq hb hle
    go_wp2
    go_ret2
    exact QpEnd.yes HG.out HQ.out HLE.out HB.out
   have hltI:(k:Int)<s.size:=by omega
   rw[if_neg (fun h=>by have:=congrArg List.length h;rw[List.length_drop] at this;have:s.size-k=0:=this;omega)] at hgo
   obtain ⟨r1,hr1⟩:∃ r1,runB (s.data.toList.drop k)=r1:=⟨_,rfl⟩
   obtain ⟨p,hp⟩:∃ p,k+r1=p:=⟨_,rfl⟩
   have hle_p:p≤s.size:=by have:=runB_in s k r1 hks hr1;omega
   rw[hr1,List.drop_drop,hp] at hgo
   have K1:=hid (fun w=>blk_at hks hs hr1 w)
   have sA:(k:Int)≤s.size:=by omega
   have sB:(p:Int)≤s.size:=by omega
   have eA:(k:Int)+r1=p:=by omega
   have htp:=tail13 s p hle_p
   have hzp:=tail_size s p hle_p
   have HB:=hid hb
   cases hx:sgmQ (s.data.toList.drop p) with
   | none =>
     rw[hx] at hgo
     have HN:=hid (show queQ s.data.toList=none from hgo.symm)
     have KX:=hid (fun w=>rsg_no (s:=s.extract p s.size) (by rw[htp];exact hx) (by omega) w)
     clear hgo hx hq hb htp hzp
     go_wp2_with (first
       | (go_at_call 27;with_reducible refine (K1.out _).mono ?_;rintro e w' ⟨rfl,rfl⟩)
       | (go_at_call 28;with_reducible refine (KX.out _).mono ?_;rintro e w1 ⟨b,A,L,c,rfl,hb1⟩;have HB1:=hid (fun o=>(HB.out.trans (hb1.mono HB.out.size)).alloc (Nat.le_trans HB.out.size hb1.size) o);clear hb1))
     go_ret2
     exact QpEnd.no HN.out (HB1.out _)
   | some y =>
     obtain ⟨x,n⟩:=y
     obtain ⟨hn1,hn2⟩:=sgmQ_in hx
     rw[List.length_drop] at hn2
     have hn2:n≤s.size-p:=hn2
     obtain ⟨q,hqq⟩:∃ q,p+n=q:=⟨_,rfl⟩
     have hle_q:q≤s.size:=by omega
     have hgo:queGo f (s.data.toList.drop q) (acc++[x])=queQ s.data.toList:=by
       rw[← hgo,hx]
       show _=queGo f ((s.data.toList.drop k).drop (r1+n)) (acc++[x])
       rw[List.drop_drop,show k+(r1+n)=q by omega]
     have HG:=hid hgo
     have KX:=hid (fun w=>rsg_yes (s:=s.extract p s.size) (by rw[htp];exact hx) (by omega) w)
     have sC:(q:Int)≤s.size:=by omega
     have eB:(p:Int)+n=q:=by omega
     have nI:((n:Int)==0)=false:=beq_eq_false_iff_ne.2 (by omega)
     obtain ⟨ss,q1,q2,q3⟩:=hq
     have hak:ss.length≤1000000:=by omega
     have HLOW:=hid (fun g' hg'=>(q1.low (g:=g') hg').1)
     have Q1:=hid q1
     have Q3:=hid q3
     have Q2:=hid q2
     clear hx q1 q2 q3 hb htp hzp hgo
     go_wp2_with (first
       | (go_at_call 27;with_reducible refine (K1.out _).mono ?_;rintro e w' ⟨rfl,rfl⟩)
       | (go_at_call 28
          go_must (
            with_reducible refine (KX.out _).mono ?_
            rintro e w1 ⟨A,L,c,rfl,hr1,hb1⟩
            have hb2:=(hb1.trans ((below1 w1 (.cells #[.bool x.deep,.slice A L c] 33)).mono hb1.size))
            have o2:=Own.fresh w1 33 #[.bool x.deep,.slice A L c]
            have a0:=o2.at 0
            have a1:=o2.at 1
            simp at a0 a1
            have HB2:=hid (fun o=>hb2.alloc hb2.size o)
            have hnew:=new_seg (w1.alloc (.cells #[.bool x.deep,.slice A L c] 33)) x.deep A L c
            have hz2:(w1.alloc (.cells #[.bool x.deep,.slice A L c] 33)).heap.size=w1.heap.size+1:=by simp
            rw[hz2] at hnew
            have HNEW:=hid hnew
            have RX:=hid (fun o=>((hr1.keep (below1 w1 (.cells #[.bool x.deep,.slice A L c] 33)) (Nat.le_refl _)).keep (below1 (w1.alloc (.cells #[.bool x.deep,.slice A L c] 33)) o) (Nat.le_refl _)).mono HB.out.size)
            clear hb1 hb2 o2 hnew hz2 hr1))
       | (at_builtin
          go_must (
            refine row_append (K:=sgmK) _ rfl (.tmp 36) (.tmp 38) rfl W.heap.size _ ss rfl (Q1.out.keep (HB2.out _) (Nat.le_refl _)) _ 1 1 [⟨x.deep,A,L,c⟩] rfl HNEW.out (by omega) (Nat.le_trans HB.out.size (HB2.out _).size) ?_
            intro v4 w4 row4 grown4 at4
            have HB4:=hid (below_grown (HB.out.trans ((HB2.out _).mono HB.out.size)) grown4 (Nat.le_trans HB.out.size (HB2.out _).size) HLOW.out)
            have R4:=hid (QIs.snoc (Q1.out.keep (HB2.out _) (Nat.le_refl _)) Q2.out (fun i s y hs hy=>⟨(Q3.out i s y hs hy).1,(Q3.out i s y hs hy).2.keep (HB2.out _) (Nat.le_refl _)⟩) (RX.out _) row4 grown4 (Nat.le_trans HB.out.size (HB2.out _).size))
            clear grown4 at4 row4)))
     go_roundw
     case rel=>exact ⟨q,f,acc++[x],_,rfl,by omega,hle_q,by go_num,R4.out,HB4.out,by rw[List.length_append];show acc.length+1+1≤_;omega,HG.out,by omega⟩
     case measure=>simp[intOf];omega
end
section
open Go.RowKit
def SRd (w:World) (B:Option Addr) (m:Nat) (l:List Sel):Prop :=
 l.length=m∧(0<m → ∃ a:Addr,B=some a∧a.block<w.heap.size ∧ ∀ j y,l[j]?=some y→w.cell? (a.add (j*8))=some (.int .i64 y.kind)∧w.cell? ⟨(a.add (j*8)).block,(a.add (j*8)).off+1,none⟩=some (.string y.name) ∧
   w.cell? ⟨(a.add (j*8)).block,(a.add (j*8)).off+2,none⟩=some (.int .i64 y.index)∧w.cell? ⟨(a.add (j*8)).block,(a.add (j*8)).off+3,none⟩=some (.int .i64 y.start)∧w.cell? ⟨(a.add (j*8)).block,(a.add (j*8)).off+4,none⟩=some (.int .i64 y.en) ∧
   w.cell? ⟨(a.add (j*8)).block,(a.add (j*8)).off+5,none⟩=some (.bool y.hs)∧w.cell? ⟨(a.add (j*8)).block,(a.add (j*8)).off+6,none⟩=some (.bool y.he)∧w.cell? ⟨(a.add (j*8)).block,(a.add (j*8)).off+7,none⟩=some (.int .i64 y.stride))
def QRd (w:World) (A:Option Addr) (n:Nat) (xs:List Sgm):Prop :=
 xs.length=n∧(0<n → ∃ a:Addr,A=some a∧a.block<w.heap.size ∧ ∀ i x,xs[i]?=some x → ∃ B m c,w.cell? (a.add (i*2))=some (.bool x.deep)∧w.cell? ⟨(a.add (i*2)).block,(a.add (i*2)).off+1,none⟩=some (.slice B m c)∧SRd w B m x.sels)
theorem add_block14 (a:Addr)(j:Nat):(a.add j).block=a.block:=by unfold Addr.add;split<;>rfl
theorem SRd.stay {w w':World} {B:Option Addr} {m:Nat} {l:List Sel} (h:SRd w B m l) (hb:Below w.heap.size w w'):SRd w' B m l:=by
 refine ⟨h.1,fun hm => ?_⟩
 obtain ⟨a,e,ha,hc⟩:=h.2 hm
 refine ⟨a,e,Nat.lt_of_lt_of_le ha hb.size,fun j y hy => ?_⟩
 have ha':(a.add (j*8)).block<w.heap.size:=by rw[add_block14];exact ha
 have t:∀ i,w'.cell? ⟨(a.add (j*8)).block,(a.add (j*8)).off+i,none⟩=w.cell? ⟨(a.add (j*8)).block,(a.add (j*8)).off+i,none⟩:=fun i=>hb.cell (p:=⟨(a.add (j*8)).block,(a.add (j*8)).off+i,none⟩) ha'
 rw[hb.cell ha',t,t,t,t,t,t,t]
 exact hc j y hy
theorem QRd.stay {w w':World} {A:Option Addr} {n:Nat} {xs:List Sgm} (h:QRd w A n xs) (hb:Below w.heap.size w w'):QRd w' A n xs:=by
 refine ⟨h.1,fun hm => ?_⟩
 obtain ⟨a,e,ha,hc⟩:=h.2 hm
 refine ⟨a,e,Nat.lt_of_lt_of_le ha hb.size,fun i x hx => ?_⟩
 obtain ⟨B,m,c,h0,h1,h2⟩:=hc i x hx
 have ha':(a.add (i*2)).block<w.heap.size:=by rw[add_block14];exact ha
 exact ⟨B,m,c,(hb.cell ha').trans h0,(hb.cell (p:=⟨(a.add (i*2)).block,(a.add (i*2)).off+1,none⟩) ha').trans h1,h2.stay hb⟩
theorem srd_of {w:World} {A:Option Addr} {m:Nat} {l:List Sel} (h:RdG selK w A m l):SRd w A m l:=by
 refine ⟨h.1,fun hm => ?_⟩
 obtain ⟨b,o,hA,hb,_⟩:=h.2 hm
 refine ⟨⟨b,o,none⟩,hA,hb,fun j y hy => ?_⟩
 rw[add_none]
 exact ⟨RdG.at h hA hy (j:=0) (u:=.int .i64 y.kind) rfl,RdG.at h hA hy (j:=1) (u:=.string y.name) rfl,RdG.at h hA hy (j:=2) (u:=.int .i64 y.index) rfl,RdG.at h hA hy (j:=3) (u:=.int .i64 y.start) rfl,
   RdG.at h hA hy (j:=4) (u:=.int .i64 y.en) rfl,RdG.at h hA hy (j:=5) (u:=.bool y.hs) rfl,RdG.at h hA hy (j:=6) (u:=.bool y.he) rfl,RdG.at h hA hy (j:=7) (u:=.int .i64 y.stride) rfl⟩
theorem qrd_of {w:World} {base:Nat} {v:Value} {xs:List Sgm} (h:QIs w base v xs):∃ A c,v=.slice A xs.length c∧QRd w A xs.length xs:=by
 obtain ⟨ss,h1,h2,h3⟩:=h
 obtain ⟨A,c,rfl,_⟩:=h1.form
 rw[h2] at h1
 refine ⟨A,c,by rw[h2],rfl,fun hm => ?_⟩
 have hr:=h1.rd
 rw[h2] at hr
 obtain ⟨b,o,hA,hb,_⟩:=hr.2 hm
 refine ⟨⟨b,o,none⟩,hA,hb,fun i x hx => ?_⟩
 have hi:i<ss.length:=by have:=(List.getElem?_eq_some_iff.1 hx).1;omega
 have hs:ss[i]?=some ss[i]:=List.getElem?_eq_getElem hi
 obtain ⟨e,hsel⟩:=h3 i _ x hs hx
 have hl:ss[i].n=x.sels.length:=by
   obtain ⟨A',c',e',_⟩:=hsel.form
   injection e'
 rw[add_none]
 refine ⟨ss[i].A,ss[i].n,ss[i].c,?_,RdG.at hr hA hs (j:=1) (u:=.slice ss[i].A ss[i].n ss[i].c) rfl,?_⟩
 ·rw[← e];exact RdG.at hr hA hs (j:=0) (u:=.bool ss[i].deep) rfl
 ·have:=srd_of hsel.rd
  rw[hl]
  exact this
def RelSo (W:World) (xs ys:List Sgm) (i:Value) (wr:World):Prop :=
 ∃ k:Nat,k≤xs.length∧i=.int .i64 k∧xs.take k=ys.take k∧Below W.heap.size W wr
def RelSi (W:World) (l l':List Sel) (i:Value) (wr:World):Prop :=
 ∃ k:Nat,k≤l.length∧i=.int .i64 k∧l.take k=l'.take k∧Below W.heap.size W wr
def SqEnd (xs ys:List Sgm)(W:World)(e:Ending)(w':World):Prop:=∃ b,e=.returned (.bool b)∧(b=true↔xs=ys)∧Below W.heap.size W w'
theorem sel_eq {x y:Sel} (h0:x.kind=y.kind) (h1:x.name=y.name) (h2:x.index=y.index) (h3:x.start=y.start) (h4:x.en=y.en) (h5:x.hs=y.hs) (h6:x.he=y.he) (h7:x.stride=y.stride):x=y:=by
 cases x;cases y;simp at h0 h1 h2 h3 h4 h5 h6 h7;simp[h0,h1,h2,h3,h4,h5,h6,h7]
theorem sgm_eq {x y:Sgm} (h0:x.deep=y.deep) (h1:x.sels=y.sels):x=y:=by
 cases x;cases y;simp at h0 h1;simp[h0,h1]
theorem take_on {α:Type} {l l':List α} {k:Nat} (h:k<l.length) (h':k<l'.length) (ht:l.take k=l'.take k) (he:l[k]=l'[k]):l.take (k+1)=l'.take (k+1):=by
 rw[List.take_succ_eq_append_getElem h,List.take_succ_eq_append_getElem h',ht,he]
theorem at_not {α:Type}{l l':List α}{k:Nat}(h:k<l.length)(h':k<l'.length)(he:l[k]≠l'[k]):¬ l=l':=fun e=>he (by subst e;rfl)
end
section
open Go.RowKit
def SmQ (xs:List Sgm):Prop:=xs.length≤1000 ∧ ∀ x∈xs,x.sels.length≤1000 ∧ ∀ y∈x.sels,y.name.size≤1000
def okG (x:Sgm):Bool:=!x.sels.isEmpty&&x.sels.all goodB
theorem rightQ_is (xs:List Sgm):rightQ xs=xs.all okG:=rfl
theorem all_no {α:Type} {p:α→Bool} {l:List α} {k:Nat} (hk:k<l.length) (h:p l[k]=false):l.all p=false:=by
 cases ha:l.all p with
 | false=>rfl
 | true=>rw[List.all_eq_true.1 ha _ (List.getElem_mem hk)] at h;cases h
theorem all_snoc {α:Type} {p:α→Bool} {l:List α} {k:Nat} (hk:k<l.length) (h1:(l.take k).all p=true) (h2:p l[k]=true):(l.take (k+1)).all p=true:=by
 rw[List.take_succ_eq_append_getElem hk,List.all_append,h1]
 simp[h2]
end
section
open Go.RowKit
theorem name_six:∀ (f:Nat) (m:List UInt8),m.length≤f→(nameM m).length≤6*m.length
 | _,[],_=>by simp[nameM,nameGo]
 | 0,_ :: _,h=>by simp at h
 | f+1,c :: t,h=>by
   have hp:=pieceM_six (c :: t) (sgnL (c :: t))
   have hg:=goOn_pos (sgnL (c :: t))
   have hi:=sgn_in (c :: t) (by simp)
   have ih:=name_six f ((c :: t).drop (goOn (sgnL (c :: t)))) (by rw[List.length_drop];simp at h ⊢;omega)
   rw[List.length_drop] at ih
   rw[nameM_cons,List.length_append]
   omega
theorem selT_len (y:Sel):(selT y).length≤6*y.name.size+60:=by
 cases hg:goodB y with
 | false=>rw[show selT y=[] from if_pos hg];simp
 | true =>
   rcases good_cases hg with rfl|⟨m,rfl,hm⟩|⟨v,rfl,hv⟩|⟨a,b,c,rfl,ha,hb,hc⟩
   ·rw[show selT sqA=[42] by decide +kernel];simp
   ·have:selT (sqN m)=nameT m:=by unfold selT;rw[good_name hm,if_neg (by decide),if_pos (show (sqN m).kind=0 from rfl)];rfl
    rw[this]
    have h6:=name_six m.length m (Nat.le_refl _)
    have:(sqN m).name.size=m.length:=rfl
    unfold nameT
    simp
    omega
   ·have:selT (sqI v)=numT v:=by unfold selT;rw[good_index hv,if_neg (by decide),if_neg (by simp[sqI]),if_neg (by simp[sqI]),if_pos (show (sqI v).kind=2 from rfl)];rfl
    rw[this]
    have:=numT_len hv
    omega
   ·have h:=selT_slice a b c ha hb hc []
    rw[List.append_nil] at h
    rw[h]
    have la:(optT a).length≤17:=by cases a with|none=>simp[optT]|some v=>exact numT_len ha
    have lb:(optT b).length≤17:=by cases b with|none=>simp[optT]|some v=>exact numT_len hb
    have lc:(tailC c []).length≤18:=by
      unfold tailC
      have:=numT_len hc
      split<;>simp<;>omega
    simp only [List.length_append,List.length_cons]
    omega
theorem selsT_snoc (y:Sel):∀ ys:List Sel,ys≠[]→selsT (ys++[y])=selsT ys++44 :: selT y
 | [],h=>absurd rfl h
 | [z],_=>rfl
 | z :: u :: t,_=>by
   have:=selsT_snoc y (u :: t) (by simp)
   show selT z++44 :: selsT (u :: t++[y])=selT z++44 :: selsT (u :: t)++44 :: selT y
   rw[this]
   simp
def selsP (ys:List Sel):List UInt8:=if ys=[] then [] else 91 :: selsT ys
theorem selsP_len (N:Nat):∀ ys:List Sel,(∀ y∈ys,(selT y).length≤N)→(selsT ys).length≤ys.length*(N+1)
 | [],_=>by simp[selsT]
 | [y],h=>by
   have:=h y (by simp)
   show (selT y).length≤_
   simp
   omega
 | y :: z :: t,h=>by
   have h1:=h y (by simp)
   have h2:=selsP_len N (z :: t) (fun x hx=>h x (by simp at hx ⊢;exact .inr hx))
   show (selT y++44 :: selsT (z :: t)).length≤_
   rw[List.length_append]
   simp only [List.length_cons] at h2 ⊢
   rw[Nat.add_mul (t.length+1) 1 (N+1)]
   omega
theorem selsP_mid {ys:List Sel} (h1:ys.length≤1000) (h2:∀ y∈ys,y.name.size≤1000) (k:Nat):(selsP (ys.take k)).length≤6100000:=by
 unfold selsP
 split
 ·simp
 ·have:=selsP_len 6060 (ys.take k) (fun y hy=>Nat.le_trans (selT_len y) (by have:=h2 y (List.mem_of_mem_take hy);omega))
  have hl:(ys.take k).length≤1000:=by rw[List.length_take];omega
  have:=Nat.mul_le_mul_right 6061 hl
  simp only [List.length_cons]
  omega
theorem sgmT_mid {x:Sgm} (h1:x.sels.length≤1000) (h2:∀ y∈x.sels,y.name.size≤1000):(sgmT x).length≤6200000:=by
 have:=selsP_len 6060 x.sels (fun y hy=>Nat.le_trans (selT_len y) (by have:=h2 y hy;omega))
 have h3:=Nat.mul_le_mul_right 6061 h1
 unfold sgmT
 simp only [List.length_append,List.length_cons,List.length_nil]
 split<;>simp<;>omega
theorem flat_mid:∀ xs:List Sgm,(∀ x∈xs,x.sels.length≤1000 ∧ ∀ y∈x.sels,y.name.size≤1000)→(xs.flatMap sgmT).length≤xs.length*6200000
 | [],_=>by simp
 | x :: t,h=>by
   have h1:=sgmT_mid (h x (by simp)).1 (h x (by simp)).2
   have h2:=flat_mid t (fun y hy=>h y (by simp[hy]))
   rw[List.flatMap_cons,List.length_append,List.length_cons,Nat.add_mul]
   omega
end
section
open Go.RowKit
def SgsOK (w:World) (base:Nat) (ss:List SegV) (xs:List Sgm):Prop :=
 ss.length≤xs.length ∧ ∀ (i:Nat) (s:SegV) (x:Sgm),ss[i]?=some s→xs[i]?=some x→s.deep=x.deep∧GRow selK w base (.slice s.A s.n s.c) x.sels
theorem GRow.stayT {α:Type} {K:RowK α} {w w':World} {base:Nat} {v:Value} {l:List α} (h:GRow K w base v l) (hb:∀ g,base≤g→g<w.heap.size→w'.heap[g]?=w.heap[g]?):GRow K w' base v l :=
 h.stay fun g hg=>hb g (h.low hg).1 (h.low hg).2
theorem SgsOK.stay {w w':World} {base:Nat} {ss:List SegV} {xs:List Sgm} (h:SgsOK w base ss xs) (hb:∀ g,base≤g→g<w.heap.size→w'.heap[g]?=w.heap[g]?):SgsOK w' base ss xs :=
 ⟨h.1,fun i s x hs hx=>⟨(h.2 i s x hs hx).1,(h.2 i s x hs hx).2.stayT hb⟩⟩
theorem SgsOK.more {w:World} {base:Nat} {ss:List SegV} {xs:List Sgm} {s:SegV} (h:SgsOK w base ss xs) (hlt:ss.length<xs.length) (hd:s.deep=xs[ss.length].deep) (hs:GRow selK w base (.slice s.A s.n s.c) xs[ss.length].sels):SgsOK w base (ss++[s]) xs:=by
 refine ⟨by simp;omega,fun i u x hu hx => ?_⟩
 by_cases hi:i<ss.length
 ·rw[List.getElem?_append_left hi] at hu
  exact h.2 i u x hu hx
 ·have hlt2:=(List.getElem?_eq_some_iff.1 hu).1
  rw[List.length_append] at hlt2
  obtain rfl:i=ss.length:=by simp at hlt2;omega
  rw[List.getElem?_append_right (Nat.le_refl _),Nat.sub_self] at hu
  obtain rfl:s=u:=by simpa using hu
  rw[List.getElem?_eq_getElem hlt] at hx
  obtain rfl:=Option.some.inj hx
  exact ⟨hd,hs⟩
theorem SgsOK.all {w:World} {b:Nat} {ss:List SegV} {xs:List Sgm} (h:SgsOK w (b+1) ss xs) (hl:ss.length=xs.length) (h9:xs.length≤1000000) (ho:Own w b 33 (sgmK.all ss).toArray):QRd w (some ⟨b,0,none⟩) xs.length xs:=by
 have hq:QIs w b (.slice (some ⟨b,0,none⟩) xs.length xs.length) xs:=by
   refine ⟨ss,?_,hl,fun i s x hs hx=>⟨(h.2 i s x hs hx).1,(h.2 i s x hs hx).2.mono (by omega)⟩⟩
   refine ⟨sgmK.all_len ss,.inr ⟨b,xs.length,_,by rw[hl],Nat.le_refl _,ho,by omega,by unfold maxLen;omega,by simp[sgmK.all_len,hl],?_⟩⟩
   rw[List.take_of_length_le]
   simp[sgmK.all_len]
 obtain ⟨A,c,e,hr⟩:=qrd_of hq
 injection e with e1 e2 e3
 subst e1
 exact hr
end
end Go.Proofs.YtmgdjlkndbejkaaGreatDoor
