/- Lemmas. -/
import Derived.Test.YtnokhgfifbkflaaGreatJ17
import Derived.Handy
set_option maxRecDepth 100000
set_option maxHeartbeats 8000000
set_option linter.unusedVariables false
set_option linter.unusedSimpArgs false
namespace Go.Proofs.YtnokhgfifbkflaaGreat
section
open Go.RowKit
def selV (s:Sel):Array Value:=#[.int .i64 s.kind,.string s.name,.int .i64 s.index,.int .i64 s.start,.int .i64 s.en,.bool s.hs,.bool s.he,.int .i64 s.stride]
theorem optI_some {l:List UInt8} {p:Int×Nat} (h:optI l=some (some p)):nrQ l=some p:=by
 unfold optI at h
 split at h
 ·rename_i q hq
  rw[hq]
  exact Option.some.inj h
 ·split at h<;>cases h
theorem nrQ_in {l:List UInt8} {v:Int} {n:Nat} (h:nrQ l=some (v,n)):1≤n∧n≤l.length:=by
 have hm:=minB_le l
 rw[nrQ_on rfl] at h
 have hl:(l.drop (minB l)).length=l.length-minB l:=List.length_drop
 split at h
 ·rename_i h48
  split at h
  ·cases h
  ·injection h with h
   injection h with h1 h2
   have:0<(l.drop (minB l)).length:=by
     cases hc:l.drop (minB l) with
     | nil=>rw[hc] at h48;cases h48
     | cons a t=>simp
   omega
 ·have hr:=runD_le (l.drop (minB l))
  unfold intD at h
  split at h
  ·cases h
  split at h
  ·cases h
  ·injection h with h
   injection h with h1 h2
   omega
section
variable {W w w':World} {v:Array Value}
end
end
section
open Go.RowKit
theorem headL_lt {l:List UInt8} {p:Nat} {c:UInt8} (h:(l.drop p).head?=some c):p<l.length:=by
 by_cases hp:p<l.length
 ·exact hp
 ·rw[List.drop_of_length_le (by omega)] at h;cases h
theorem slcC_in {a b:Option Int} {l:List UInt8} {k n:Nat} {x:Sel} (hc:(l.drop k).head?=some 58) (h:slcC a b l k=some (x,n)):k+1≤n∧n≤l.length:=by
 have hk:=headL_lt hc
 have hr:=runB_le (l.drop (k+1))
 rw[List.length_drop] at hr
 unfold slcC at h
 split at h
 ·cases h
 ·injection h with h
  injection h with h1 h2
  omega
 ·rename_i v m hm
  have hn:=nrQ_in (optI_some hm)
  rw[List.length_drop] at hn
  injection h with h
  injection h with h1 h2
  omega
theorem slcB_in {a:Option Int} {l:List UInt8} {k n:Nat} {x:Sel} (hk:k≤l.length) (h:slcB a l k=some (x,n)):k≤n∧n≤l.length:=by
 have hr:=runB_le (l.drop k)
 rw[List.length_drop] at hr
 unfold slcB at h
 split at h
 ·cases h
 ·split at h
  ·rename_i hc
   have:=slcC_in hc h
   omega
  ·injection h with h
   injection h with h1 h2
   omega
 ·rename_i v m hm
  have hn:=nrQ_in (optI_some hm)
  rw[List.length_drop] at hn
  split at h
  ·rename_i hc
   have:=slcC_in hc h
   omega
  ·injection h with h
   injection h with h1 h2
   omega
theorem slcQ_in {l:List UInt8} {n:Nat} {x:Sel} (h:slcQ l=some (x,n)):1≤n∧n≤l.length:=by
 unfold slcQ at h
 split at h
 ·cases h
 ·split at h
  ·rename_i hc
   have h0:=headL_lt (l:=l) (p:=0) hc
   exact slcB_in (by omega) h
  ·cases h
 ·rename_i v m hm
  have hn:=nrQ_in (optI_some hm)
  split at h
  ·rename_i hc
   have hlt:=headL_lt hc
   have:=slcB_in (by omega) h
   omega
  ·cases h
theorem quoGo_in (m:UInt8):∀ (f:Nat) (l acc:List UInt8) (k:Nat) (b:List UInt8) (n:Nat),quoGo m f l acc k=some (b,n)→k+1≤n∧n≤k+l.length
 | 0,l,acc,k,b,n,h=>by cases h
 | f+1,[],acc,k,b,n,h=>by cases h
 | f + 1,c :: t,acc,k,b,n,h=>by
   rw[quoGo_on] at h
   split at h
   ·injection h with h;injection h with h1 h2;simp;omega
   split at h
   ·cases h
   split at h
   ·have:=quoGo_in m f t _ _ _ _ h
    simp;omega
   ·split at h
    ·cases h
    ·rename_i b' n' hx
     have he:=escQ_in hx
     have:=quoGo_in m f _ _ _ _ _ h
     rw[List.length_drop] at this
     simp;omega
theorem quoQ_in {l b:List UInt8} {n:Nat} (h:quoQ l=some (b,n)):1≤n∧n≤l.length:=by
 cases l with
 | nil=>cases h
 | cons m t =>
   have:=quoGo_in m (t.length+1) t [] 1 b n h
   simp;omega
theorem selQ_in {l:List UInt8} {n:Nat} {x:Sel} (h:selQ l=some (x,n)):1≤n∧n≤l.length:=by
 unfold selQ at h
 split at h
 ·rename_i hc
  injection h with h
  injection h with h1 h2
  have:=headL_lt (l:=l) (p:=0) hc
  omega
 split at h
 ·cases hq:quoQ l with
  | none=>rw[hq] at h;cases h
  | some p =>
    rw[hq] at h
    injection h with h
    injection h with h1 h2
    have:=quoQ_in (b:=p.1) (n:=p.2) hq
    omega
 ·split at h
  ·rename_i p hp
   have e:p=(x,n):=Option.some.inj h
   rw[e] at hp
   exact slcQ_in hp
  ·cases hq:nrQ l with
   | none=>rw[hq] at h;cases h
   | some p =>
     rw[hq] at h
     injection h with h
     injection h with h1 h2
     have:=nrQ_in (v:=p.1) (n:=p.2) hq
     omega
end
section
open Go.RowKit
def selK:RowK Sel where
 T:=42
 S:=38
 n:=8
 bytes:=64
 zero:=.agg #[.int .i64 0,.string ⟨#[]⟩,.int .i64 0,.int .i64 0,.int .i64 0,.bool false,.bool false,.int .i64 0]
 enc:=fun s=>[.int .i64 s.kind,.string s.name,.int .i64 s.index,.int .i64 s.start,.int .i64 s.en,.bool s.hs,.bool s.he,.int .i64 s.stride]
 pos:=by decide
 len:=fun _=>rfl
 one:=fun s u h=>by simp at h;rcases h with rfl|rfl|rfl|rfl|rfl|rfl|rfl|rfl<;>rfl
 under:=Tryz.underlying38
 info:=by kernel_rfl
 zlen:=rfl
 small:=by decide
theorem GRow.keep {α:Type} {K:RowK α} {w w':World} {base B:Nat} {v:Value} {d:List α} (h:GRow K w base v d) (hb:Below B w w') (hB:w.heap.size≤B):GRow K w' base v d :=
 h.stay fun g hg=>hb.block g (Nat.lt_of_lt_of_le (h.low hg).2 hB)
theorem new_sel (w:World) (x:Sel):RdG selK (w.alloc (.cells #[.int .i64 x.kind,.string x.name,.int .i64 x.index,.int .i64 x.start,.int .i64 x.en,.bool x.hs,.bool x.he,.int .i64 x.stride] 42)) (some ⟨w.heap.size,0,none⟩) 1 [x] :=
 (GRow.made (K:=selK) (base:=0) (l:=[x]) w _ rfl (show 1≤maxLen by decide) (Nat.zero_le _)).rd
theorem brkGo_on (l:List UInt8) (f k:Nat) (acc:List Sel) (r1 p:Nat) (h1:runB (l.drop k)=r1) (hp:k+r1=p):brkGo l (f+1) k acc=match selQ (l.drop p) with
   | none=>none
   | some (x,n) =>
     if (l.drop (p+n+runB (l.drop (p+n)))).head?=some 93 then some (acc++[x],p+n+runB (l.drop (p+n))+1)
     else if (l.drop (p+n+runB (l.drop (p+n)))).head?=some 44 then brkGo l f (p+n+runB (l.drop (p+n))+1) (acc++[x])
     else none:=by
 subst h1 hp
 rfl
end
section
open Go.RowKit
theorem ba_list (s:ByteArray):(⟨s.data.toList.toArray⟩:ByteArray)=s:=by simp
section
variable {W w w':World} {c0 c1:Value}
end
end
section
open Go.RowKit
structure SegV where
 deep:Bool
 A:Option Addr
 n:Nat
 c:Nat
def sgmK:RowK SegV where
 T:=40
 S:=24
 n:=2
 bytes:=32
 zero:=.agg #[.bool false,.slice none 0 0]
 enc:=fun s=>[.bool s.deep,.slice s.A s.n s.c]
 pos:=by decide
 len:=fun _=>rfl
 one:=fun s u h=>by simp at h;rcases h with rfl|rfl<;>rfl
 under:=Tryz.underlying24
 info:=by kernel_rfl
 zlen:=rfl
 small:=by decide
def QIs (w:World) (base:Nat) (v:Value) (xs:List Sgm):Prop :=
 ∃ ss:List SegV,GRow sgmK w base v ss∧ss.length=xs.length ∧ ∀ (i:Nat) (s:SegV) (x:Sgm),ss[i]?=some s→xs[i]?=some x→s.deep=x.deep∧GRow selK w base (.slice s.A s.n s.c) x.sels
theorem row_ne {w:World} {base:Nat} {v u:Value} {ss:List SegV} {xs:List Sel} (h:GRow sgmK w base v ss) (h':GRow selK w base u xs) {g:Nat} (hg:v.ownBlock=some g) (hu:u.ownBlock=some g):False:=by
 rcases h.2 with ⟨rfl,_⟩|⟨g1,c1,cur1,rfl,_,hh1,_⟩
 ·simp[Value.ownBlock] at hg
 rcases h'.2 with ⟨rfl,_⟩|⟨g2,c2,cur2,rfl,_,hh2,_⟩
 ·simp[Value.ownBlock] at hu
 have e1:g1=g:=by simpa [Value.ownBlock] using hg
 have e2:g2=g:=by simpa [Value.ownBlock] using hu
 subst e1 e2
 rw[hh1] at hh2
 have:=Option.some.inj hh2
 injection this with _ ht _
 exact absurd ht (by decide)
theorem brkGo_low (l:List UInt8):∀ (f k:Nat) (acc xs:List Sel) (n:Nat),k≤l.length→brkGo l f k acc=some (xs,n)→k+1≤n∧n≤l.length
 | 0,k,acc,xs,n,hk,h=>by cases h
 | f + 1, k,acc,xs,n,hk,h=>by
   have hr:=runB_le (l.drop k)
   rw[List.length_drop] at hr
   rw[brkGo_on l f k acc _ _ rfl rfl] at h
   split at h
   ·cases h
   ·rename_i x m hx
    have hm:=selQ_in hx
    rw[List.length_drop] at hm
    split at h
    ·rename_i hc
     have:=headL_lt hc
     injection h with h
     injection h with h1 h2
     omega
    ·split at h
     ·rename_i hc
      have hlt:=headL_lt hc
      have:=brkGo_low l f _ _ _ _ (by omega) h
      omega
     ·cases h
theorem sgmR_in {p:Nat} {r:List UInt8} {xs:List Sel} {n:Nat} (h:sgmR p r=some (xs,n)):1≤n∧n≤r.length:=by
 unfold sgmR at h
 split at h
 ·rename_i hc
  have hlt:=headL_lt (l:=r) (p:=0) hc.1
  have:=brkGo_low r _ 1 [] xs n (by omega) h
  omega
 split at h
 ·cases h
 split at h
 ·rename_i hc
  have hlt:=headL_lt (l:=r) (p:=0) hc
  injection h with h
  injection h with h1 h2
  omega
 split at h
 ·cases h
 ·rename_i hn
  have:=plnN_le false r
  injection h with h
  injection h with h1 h2
  omega
theorem sgmQ_in {l:List UInt8} {x:Sgm} {n:Nat} (h:sgmQ l=some (x,n)):1≤n∧n≤l.length:=by
 unfold sgmQ at h
 cases hr:sgmR (dotsN l) (l.drop (dotsN l)) with
 | none=>rw[hr] at h;cases h
 | some q =>
   rw[hr] at h
   have hq:=sgmR_in (xs:=q.1) (n:=q.2) hr
   rw[List.length_drop] at hq
   injection h with h
   injection h with h1 h2
   omega
theorem new_seg (w:World) (b:Bool) (A:Option Addr) (n c:Nat):RdG sgmK (w.alloc (.cells #[.bool b,.slice A n c] 40)) (some ⟨w.heap.size,0,none⟩) 1 [⟨b,A,n,c⟩] :=
 (GRow.made (K:=sgmK) (base:=0) (l:=[⟨b,A,n,c⟩]) w _ rfl (show 1≤maxLen by decide) (Nat.zero_le _)).rd
def QpEnd (l:List UInt8) (W:World) (e:Ending) (w':World):Prop :=
 (match queQ l with
   | none=>e=.returned (.tuple #[.slice none 0 0,.bool false])
   | some xs => ∃ v,e=.returned (.tuple #[v,.bool true])∧QIs w' W.heap.size v xs∧xs.length≤l.length)∧Below W.heap.size W w'
theorem QpEnd.no {l:List UInt8} {W w':World} (h:queQ l=none) (hb:Below W.heap.size W w'):QpEnd l W (.returned (.tuple #[.slice none 0 0,.bool false])) w':=by
 unfold QpEnd;rw[h];exact ⟨rfl,hb⟩
theorem QIs.snoc {w w':World} {base:Nat} {v v':Value} {acc:List Sgm} {x:Sgm} {ss:List SegV} {A:Option Addr} {n c:Nat}
   (h1:GRow sgmK w base v ss) (h2:ss.length=acc.length) (h3:∀ (i:Nat) (s:SegV) (y:Sgm),ss[i]?=some s→acc[i]?=some y→s.deep=y.deep∧GRow selK w base (.slice s.A s.n s.c) y.sels)
   (hx:GRow selK w base (.slice A n c) x.sels) (hrow:GRow sgmK w' base v' (ss++[⟨x.deep,A,n,c⟩])) (hg:w.grownBy w' v.ownBlock) (hbase:base≤w.heap.size):QIs w' base v' (acc++[x]):=by
 have hk:∀ {u:Value} {xs:List Sel},GRow selK w base u xs→GRow selK w' base u xs:=fun {u xs} hu=>hu.stay fun g hgu=>by
   have hlow:=hu.low hgu
   exact hg.block g hlow.2 (fun e=>row_ne h1 hu e.symm hgu)
 refine ⟨_,hrow,by simp[h2],fun i s y hs hy => ?_⟩
 rcases Nat.lt_or_ge i ss.length with h|h
 ·rw[List.getElem?_append_left h] at hs
  rw[List.getElem?_append_left (by omega)] at hy
  obtain ⟨e,hr⟩:=h3 i s y hs hy
  exact ⟨e,hk hr⟩
 ·have hi:i=ss.length:=by
    have:=(List.getElem?_eq_some_iff.1 hs).1
    simp at this
    omega
  subst hi
  rw[List.getElem?_append_right (Nat.le_refl _)] at hs
  rw[h2,List.getElem?_append_right (Nat.le_refl _)] at hy
  simp at hs hy
  subst hs hy
  exact ⟨rfl,hk hx⟩
end
section
open Go.RowKit
def SRd (w:World) (B:Option Addr) (m:Nat) (l:List Sel):Prop :=
 l.length=m∧(0<m → ∃ a:Addr,B=some a∧a.block<w.heap.size ∧ ∀ j y,l[j]?=some y→w.cell? (a.add (j*8))=some (.int .i64 y.kind)∧w.cell? ⟨(a.add (j*8)).block,(a.add (j*8)).off+1,none⟩=some (.string y.name) ∧
   w.cell? ⟨(a.add (j*8)).block,(a.add (j*8)).off+2,none⟩=some (.int .i64 y.index)∧w.cell? ⟨(a.add (j*8)).block,(a.add (j*8)).off+3,none⟩=some (.int .i64 y.start)∧w.cell? ⟨(a.add (j*8)).block,(a.add (j*8)).off+4,none⟩=some (.int .i64 y.en) ∧
   w.cell? ⟨(a.add (j*8)).block,(a.add (j*8)).off+5,none⟩=some (.bool y.hs)∧w.cell? ⟨(a.add (j*8)).block,(a.add (j*8)).off+6,none⟩=some (.bool y.he)∧w.cell? ⟨(a.add (j*8)).block,(a.add (j*8)).off+7,none⟩=some (.int .i64 y.stride))
def QRd (w:World) (A:Option Addr) (n:Nat) (xs:List Sgm):Prop :=
 xs.length=n∧(0<n → ∃ a:Addr,A=some a∧a.block<w.heap.size ∧ ∀ i x,xs[i]?=some x → ∃ B m c,w.cell? (a.add (i*2))=some (.bool x.deep)∧w.cell? ⟨(a.add (i*2)).block,(a.add (i*2)).off+1,none⟩=some (.slice B m c)∧SRd w B m x.sels)
theorem add_block14 (a:Addr)(j:Nat):(a.add j).block=a.block:=by unfold Addr.add;split<;>rfl
theorem SRd.stay {w w':World} {B:Option Addr} {m:Nat} {l:List Sel} (h:SRd w B m l) (hb:Below w.heap.size w w'):SRd w' B m l:=by
 refine ⟨h.1,fun hm => ?_⟩
 obtain ⟨a,e,ha,hc⟩:=h.2 hm
 refine ⟨a,e,Nat.lt_of_lt_of_le ha hb.size,fun j y hy => ?_⟩
 have ha':(a.add (j*8)).block<w.heap.size:=by rw[add_block14];exact ha
 have t:∀ i,w'.cell? ⟨(a.add (j*8)).block,(a.add (j*8)).off+i,none⟩=w.cell? ⟨(a.add (j*8)).block,(a.add (j*8)).off+i,none⟩:=fun i=>hb.cell (p:=⟨(a.add (j*8)).block,(a.add (j*8)).off+i,none⟩) ha'
 rw[hb.cell ha',t,t,t,t,t,t,t]
 exact hc j y hy
theorem QRd.stay {w w':World} {A:Option Addr} {n:Nat} {xs:List Sgm} (h:QRd w A n xs) (hb:Below w.heap.size w w'):QRd w' A n xs:=by
 refine ⟨h.1,fun hm => ?_⟩
 obtain ⟨a,e,ha,hc⟩:=h.2 hm
 refine ⟨a,e,Nat.lt_of_lt_of_le ha hb.size,fun i x hx => ?_⟩
 obtain ⟨B,m,c,h0,h1,h2⟩:=hc i x hx
 have ha':(a.add (i*2)).block<w.heap.size:=by rw[add_block14];exact ha
 exact ⟨B,m,c,(hb.cell ha').trans h0,(hb.cell (p:=⟨(a.add (i*2)).block,(a.add (i*2)).off+1,none⟩) ha').trans h1,h2.stay hb⟩
theorem srd_of {w:World} {A:Option Addr} {m:Nat} {l:List Sel} (h:RdG selK w A m l):SRd w A m l:=by
 refine ⟨h.1,fun hm => ?_⟩
 obtain ⟨b,o,hA,hb,_⟩:=h.2 hm
 refine ⟨⟨b,o,none⟩,hA,hb,fun j y hy => ?_⟩
 rw[add_none]
 exact ⟨RdG.at h hA hy (j:=0) (u:=.int .i64 y.kind) rfl,RdG.at h hA hy (j:=1) (u:=.string y.name) rfl,RdG.at h hA hy (j:=2) (u:=.int .i64 y.index) rfl,RdG.at h hA hy (j:=3) (u:=.int .i64 y.start) rfl,
   RdG.at h hA hy (j:=4) (u:=.int .i64 y.en) rfl,RdG.at h hA hy (j:=5) (u:=.bool y.hs) rfl,RdG.at h hA hy (j:=6) (u:=.bool y.he) rfl,RdG.at h hA hy (j:=7) (u:=.int .i64 y.stride) rfl⟩
theorem qrd_of {w:World} {base:Nat} {v:Value} {xs:List Sgm} (h:QIs w base v xs):∃ A c,v=.slice A xs.length c∧QRd w A xs.length xs:=by
 obtain ⟨ss,h1,h2,h3⟩:=h
 obtain ⟨A,c,rfl,_⟩:=h1.form
 rw[h2] at h1
 refine ⟨A,c,by rw[h2],rfl,fun hm => ?_⟩
 have hr:=h1.rd
 rw[h2] at hr
 obtain ⟨b,o,hA,hb,_⟩:=hr.2 hm
 refine ⟨⟨b,o,none⟩,hA,hb,fun i x hx => ?_⟩
 have hi:i<ss.length:=by have:=(List.getElem?_eq_some_iff.1 hx).1;omega
 have hs:ss[i]?=some ss[i]:=List.getElem?_eq_getElem hi
 obtain ⟨e,hsel⟩:=h3 i _ x hs hx
 have hl:ss[i].n=x.sels.length:=by
   obtain ⟨A',c',e',_⟩:=hsel.form
   injection e'
 rw[add_none]
 refine ⟨ss[i].A,ss[i].n,ss[i].c,?_,RdG.at hr hA hs (j:=1) (u:=.slice ss[i].A ss[i].n ss[i].c) rfl,?_⟩
 ·rw[← e];exact RdG.at hr hA hs (j:=0) (u:=.bool ss[i].deep) rfl
 ·have:=srd_of hsel.rd
  rw[hl]
  exact this
end
end Go.Proofs.YtnokhgfifbkflaaGreat
