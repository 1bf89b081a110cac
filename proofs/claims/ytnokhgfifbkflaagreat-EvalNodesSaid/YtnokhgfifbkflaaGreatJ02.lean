/- Lemmas. -/
import Derived.Test.YtnokhgfifbkflaaGreatRows
import Derived.BigQuiet
import Derived.Lib.Hide
import Derived.WalkLawsBesides
import Derived.WalkSpells
set_option maxRecDepth 100000
set_option maxHeartbeats 8000000
set_option linter.unusedVariables false
namespace Go.Proofs.YtnokhgfifbkflaaGreat
open Go.Lib (hid)
section
open Go.RowKit
theorem ret_i {k:IntKind}{a b:Int}(h:a=b):Ending.returned (.int k a)=.returned (.int k b):=by rw[h]
theorem ret_b {a b:Bool}(h:a=b):Ending.returned (.bool a)=.returned (.bool b):=by rw[h]
def Own (w:World)(b:Nat)(t:TypeId)(cs:Array Value):Prop:=w.heap[b]?=some (.cells cs t (0,0))
section
variable {w w':World} {b:Nat} {t:TypeId} {cs:Array Value}
theorem Own.inside (h:Own w b t cs):b<w.heap.size:=by
 by_cases hb:b<w.heap.size
 ·exact hb
 ·unfold Own at h
  rw[Array.getElem?_eq_none (by omega)] at h
  cases h
theorem Own.at (h:Own w b t cs)(i:Nat):w.cell? ⟨b,i,none⟩=cs[i]?:=cell_of_row w b i cs t (0,0) h
theorem Own.free (h:Own w b t cs) (i:Nat):w.frozen? ⟨b,i,none⟩=false:=by
 unfold Own at h
 simp[World.frozen?,h]
theorem Own.fresh (w:World) (t:TypeId) (cs:Array Value):Own (w.alloc (.cells cs t)) w.heap.size t cs:=by
 unfold Own
 show (w.heap.push _)[w.heap.size]?=_
 simp
theorem Own.over (h:Own w b t cs)(o:Obj):Own (w.alloc o) b t cs:=(Below.heap_alloc w o b h.inside).trans h
theorem Own.put (h:Own w b t cs) (i:Nat) (u:Value):Own (w.setCell ⟨b,i,none⟩ u) b t (cs.setIfInBounds i u):=by
 unfold Own at h ⊢
 simp[World.setCell,Array.getElem?_modify,h]
theorem Own.past (h:Own w b t cs){p:Addr}(hp:b≠p.block)(u:Value):Own (w.setCell p u) b t cs:=(Below.heap_setCell w p u b hp).trans h
theorem Own.stay {B:Nat}(h:Own w b t cs)(hb:Below B w w')(hB:b<B):Own w' b t cs:=(hb.block b hB).trans h
end
def Turned (b:Nat) (w w':World):Prop :=
 w'.os=w.os∧w'.tape=w.tape∧w'.output=w.output∧w.heap.size≤w'.heap.size ∧ ∀ k,k<w.heap.size→k≠b→w'.heap[k]?=w.heap[k]?
theorem Turned.refl (b:Nat)(w:World):Turned b w w:=⟨rfl,rfl,rfl,Nat.le_refl _,fun _ _ _=>rfl⟩
theorem Turned.put {b:Nat} {a w:World} (h:Turned b a w) (i:Nat) (u:Value):Turned b a (w.setCell ⟨b,i,none⟩ u) :=
 ⟨h.1,h.2.1,h.2.2.1,by simpa [World.setCell] using h.2.2.2.1,fun k hk hne=>(Below.heap_setCell w ⟨b,i,none⟩ u k hne).trans (h.2.2.2.2 k hk hne)⟩
theorem Turned.below {b B:Nat} {w w':World} (h:Turned b w w') (hB:B≤b) (hs:b≤w.heap.size):Below B w w' :=
 ⟨h.1,h.2.1,h.2.2.1,h.2.2.2.1,fun k hk=>h.2.2.2.2 k (by omega) (by omega)⟩
theorem Turned.of_below {b B:Nat} {w w':World} (h:Below B w w') (hB:B=w.heap.size):Turned b w w' :=
 ⟨h.os,h.tape,h.output,h.size,fun k hk _=>h.block k (by omega)⟩
theorem Turned.trans {b:Nat} {u v w:World} (h:Turned b u v) (g:Turned b v w):Turned b u w :=
 ⟨g.1.trans h.1,g.2.1.trans h.2.1,g.2.2.1.trans h.2.2.1,Nat.le_trans h.2.2.2.1 g.2.2.2.1,
  fun k hk hne=>(g.2.2.2.2 k (Nat.lt_of_lt_of_le hk h.2.2.2.1) hne).trans (h.2.2.2.2 k hk hne)⟩
end
section
open Go.RowKit
def isDigitI (c:Int):Bool:=decide (48≤c∧c≤57)
def kindI (c:Int):Int :=
 if c=32 then 1 else if c=9 then 1 else if c=10 then 1 else if c=13 then 1 else
 if c=91 then 2 else if c=93 then 3 else if c=123 then 4 else if c=125 then 5 else
 if c=44 then 6 else if c=58 then 7 else if c=34 then 8 else if c=45 then 9 else
 if c=116 then 10 else if c=102 then 10 else if c=110 then 10 else
 if isDigitI c then 9 else 0
def smallI (c:Int):Int:=if 65≤c∧c≤90 then c+32 else c
def hexI (c:Int):Int :=
 if 48≤c∧c≤57 then c-48 else if 97≤c∧c≤102 then c-87 else if 65≤c∧c≤70 then c-55 else 0
def isHexI (c:Int):Bool :=
 decide (48≤c∧c≤57)||decide (97≤c∧c≤102)||decide (65≤c∧c≤70)
def isAlphaI (c:Int):Bool:=decide (97≤c∧c≤122)||decide (65≤c∧c≤90)
theorem ret_int {k:IntKind}{a b:Int}(h:a=b):Ending.returned (.int k a)=.returned (.int k b):=by rw[h]
theorem ret_bool {a b:Bool}(h:a=b):Ending.returned (.bool a)=.returned (.bool b):=by rw[h]
def lowI (n:Int):Int:=if 0≤n∧n≤9 then n+48 else if 10≤n∧n≤15 then n+87 else 48
theorem digit_any (c:Int) (w:World) :
   Calls Tryz.prog 103 #[.int .u8 c] w fun e w'=>e=.returned (.bool (isDigitI c))∧w=w':=by
 by_cases h1:48≤c<;>by_cases h2:c≤57
 all_goals
   go_enter Tryz.func103,Tryz.ntmps103
   go_wp2
   go_ret
   exact ⟨by simp[isDigitI,h1,h2],rfl⟩
theorem alpha_any (c:Int) (w:World) :
   Calls Tryz.prog 124 #[.int .u8 c] w fun e w'=>e=.returned (.bool (isAlphaI c))∧w=w':=by
 by_cases h1:97≤c<;>by_cases h2:c≤122<;>by_cases h3:65≤c<;>by_cases h4:c≤90
 all_goals
   go_enter Tryz.func124,Tryz.ntmps124
   go_wp2
   go_ret
   exact ⟨by simp[isAlphaI,h1,h2,h3,h4],rfl⟩
theorem small_any (c:Int) (w:World) (h0:0≤c) (h9:c≤255) :
   Calls Tryz.prog 154 #[.int .u8 c] w fun e w'=>e=.returned (.int .u8 (smallI c))∧w=w':=by
 by_cases h1:65≤c<;>by_cases h2:c≤90
 all_goals
   go_enter Tryz.func154,Tryz.ntmps154
   go_wp2
   go_ret
   exact ⟨by simp[smallI,h1,h2];try omega,rfl⟩
theorem kind_any (c:Int) (w:World) :
   Calls Tryz.prog 82 #[.int .u8 c] w fun e w'=>e=.returned (.int .i64 (kindI c))∧w=w':=by
 go_enter Tryz.func82,Tryz.ntmps82
 go_wp2_with (go_at_call 103;refine (digit_any _ _).mono ?_;rintro e w' ⟨rfl,rfl⟩)
 all_goals
   go_ret
   exact ⟨ret_int (by simp_all [kindI]),rfl⟩
theorem hex_hit (c:Int) (k:Nat) (hk:k<16) (h:smallI c=lowI k):hexI c=k∧isHexI c=true:=by
 unfold smallI lowI at h
 unfold hexI isHexI
 split at h<;>split at h<;>(try split at h) <;>
   first
     | (refine ⟨?_,?_⟩;(repeat' split)<;>omega;simp;omega)
     | omega
def NoneOf (s:Int)(k:Nat):Prop:=∀ j:Nat,j<k→s≠lowI j
theorem noneOf_zero (s:Int):NoneOf s 0:=fun _ h=>absurd h (by omega)
theorem noneOf_succ {s:Int} {k:Nat} (h:NoneOf s k) (e:s≠lowI k):NoneOf s (k+1):=by
 intro j hj
 by_cases hjk:j=k
 ·subst hjk;exact e
 ·exact h j (by omega)
theorem hit_of {s c:Int} {k:Nat} (_:NoneOf s k) (H:∀ k:Nat,k<16→s=lowI k→hexI c=k∧isHexI c=true) (hk:k<16) (h:s=lowI k) :
   hexI c=k∧isHexI c=true:=H k hk h
theorem hex_miss (c:Int) (h:NoneOf (smallI c) 16):hexI c=0∧isHexI c=false:=by
 have g:∀ j:Nat,j<16→c≠lowI j∧(65≤c∧c≤90→c+32≠lowI j):=by
   intro j hj
   have:=h j hj
   unfold smallI at this
   split at this
   ·exact ⟨by unfold lowI;split<;>(try split)<;>omega,fun _=>this⟩
   ·exact ⟨this,fun hh=>absurd hh ‹_›⟩
 have g1:¬ (48≤c∧c≤57):=by
   intro hh
   obtain ⟨k,rfl⟩:=Int.eq_ofNat_of_zero_le (show 0≤c by omega)
   have:=(g (k-48) (by omega)).1
   unfold lowI at this
   rw[if_pos (by omega)] at this
   omega
 have g2:¬ (97≤c∧c≤102):=by
   intro hh
   obtain ⟨k,rfl⟩:=Int.eq_ofNat_of_zero_le (show 0≤c by omega)
   have:=(g (k-87) (by omega)).1
   unfold lowI at this
   rw[if_neg (by omega),if_pos (by omega)] at this
   omega
 have g3:¬ (65≤c∧c≤70):=by
   intro hh
   obtain ⟨k,rfl⟩:=Int.eq_ofNat_of_zero_le (show 0≤c by omega)
   have:=(g (k-55) (by omega)).2 (by omega)
   unfold lowI at this
   rw[if_neg (by omega),if_pos (by omega)] at this
   omega
 unfold hexI isHexI
 rw[if_neg g1,if_neg g2,if_neg g3]
 simp[g1,g2,g3]
theorem ret_two {k:IntKind} {a b:Int} {x y:Bool} (h:a=b) (g:x=y) :
   Ending.returned (.tuple #[.int k a,.bool x])=.returned (.tuple #[.int k b,.bool y]):=by rw[h,g]
theorem hex_any (c:Int) (w:World) (h0:0≤c) (h9:c≤255) :
   Calls Tryz.prog 149 #[.int .u8 c] w fun e w'=>e=.returned (.tuple #[.int .i64 (hexI c),.bool (isHexI c)])∧w=w':=by
 go_enter Tryz.func149,Tryz.ntmps149
 go_wp2_with (go_at_call 154;refine (small_any _ _ (by omega) (by omega)).mono ?_;rintro e w' ⟨rfl,rfl⟩)
 have hm:∀ s:Int,s=smallI c→(∀ k:Nat,k<16→s=lowI k→hexI c=k∧isHexI c=true)∧(NoneOf s 16→hexI c=0∧isHexI c=false):=by
   rintro s rfl
   exact ⟨fun k hk h=>hex_hit c k hk h,fun h=>hex_miss c h⟩
 generalize hs:smallI c=s
 obtain ⟨hh,hn⟩:=hm s hs.symm
 clear hm hs
 have HH:=hid hh
 have HN:=hid hn
 clear hh hn
 go_loop [8] (fun i => ∃ k:Nat,k≤16∧i=.int .i64 k∧NoneOf s k) (fun i=>16-(intOf i).toNat)
 case atStart=>exact ⟨0,by omega,rfl,noneOf_zero s⟩
 case round =>
   obtain ⟨k,hk,rfl,hno⟩:=hrel
   by_cases hlt:k<16
   ·have hk:k=0∨k=1∨k=2∨k=3∨k=4∨k=5∨k=6∨k=7∨k=8∨k=9∨k=10∨k=11∨k=12∨k=13∨k=14∨k=15:=by omega
    rcases hk with rfl|rfl|rfl|rfl|rfl|rfl|rfl|rfl|rfl|rfl|rfl|rfl|rfl|rfl|rfl|rfl
    all_goals
      go_wp2
      ·rename_i h _
       have g:=hit_of hno HH.out (by omega) (beq_iff_eq.1 h)
       go_ret2
       exact ⟨ret_two g.1.symm g.2.symm,rfl⟩
      ·rename_i h
       have g:=noneOf_succ hno (beq_eq_false_iff_ne.1 h)
       go_round
       case rel=>exact ⟨_,Nat.succ_le_of_lt hlt,rfl,g⟩
       case measure=>simp[intOf]
   ·obtain rfl:k=16:=by omega
    go_wp2
    go_ret2
    have g:=HN.out hno
    exact ⟨ret_two g.1.symm g.2.symm,rfl⟩
end
section
open Go.RowKit
theorem rdigit_any (c:Int) (w:World) :
   Calls Tryz.prog 111 #[.int .u8 c] w fun e w'=>e=.returned (.bool (isDigitI c))∧w=w':=by
 by_cases h1:48≤c<;>by_cases h2:c≤57
 all_goals
   go_enter Tryz.func111,Tryz.ntmps111
   go_wp2
   go_ret
   exact ⟨by simp[isDigitI,h1,h2],rfl⟩
def isBlankI (c:Int):Bool:=decide (c=32)||decide (c=9)||decide (c=10)||decide (c=13)
theorem rblank_any (c:Int) (w:World) :
   Calls Tryz.prog 88 #[.int .u8 c] w fun e w'=>e=.returned (.bool (isBlankI c))∧w=w':=by
 by_cases h1:c=32
 ·subst h1
  go_enter Tryz.func88,Tryz.ntmps88
  go_wp2
  go_ret
  exact ⟨rfl,rfl⟩
 by_cases h2:c=9
 ·subst h2
  go_enter Tryz.func88,Tryz.ntmps88
  go_wp2
  go_ret
  exact ⟨rfl,rfl⟩
 by_cases h3:c=10
 ·subst h3
  go_enter Tryz.func88,Tryz.ntmps88
  go_wp2
  go_ret
  exact ⟨rfl,rfl⟩
 by_cases h4:c=13
 ·subst h4
  go_enter Tryz.func88,Tryz.ntmps88
  go_wp2
  go_ret
  exact ⟨rfl,rfl⟩
 have g1:(c==32)=false:=beq_eq_false_iff_ne.2 h1
 have g2:(c==9)=false:=beq_eq_false_iff_ne.2 h2
 have g3:(c==10)=false:=beq_eq_false_iff_ne.2 h3
 have g4:(c==13)=false:=beq_eq_false_iff_ne.2 h4
 go_enter Tryz.func88,Tryz.ntmps88
 go_wp2
 go_ret
 exact ⟨ret_bool (by simp[isBlankI,h1,h2,h3,h4]),rfl⟩
theorem ralpha_any (c:Int) (w:World) :
   Calls Tryz.prog 126 #[.int .u8 c] w fun e w'=>e=.returned (.bool (isAlphaI c))∧w=w':=by
 by_cases h1:97≤c<;>by_cases h2:c≤122<;>by_cases h3:65≤c<;>by_cases h4:c≤90
 all_goals
   go_enter Tryz.func126,Tryz.ntmps126
   go_wp2
   go_ret
   exact ⟨by simp[isAlphaI,h1,h2,h3,h4],rfl⟩
theorem ret_two' {k:IntKind} {a b:Int} {x y:Bool} (h:a=b) (g:x=y) :
   Ending.returned (.tuple #[.int k a,.bool x])=.returned (.tuple #[.int k b,.bool y]):=by rw[h,g]
theorem rhex_any (c:Int) (w:World) (h0:0≤c) (h9:c≤255) :
   Calls Tryz.prog 144 #[.int .u8 c] w fun e w'=>e=.returned (.tuple #[.int .i64 (hexI c),.bool (isHexI c)])∧w=w':=by
 by_cases h1:48≤c<;>by_cases h2:c≤57<;>by_cases h3:97≤c<;>by_cases h4:c≤102<;>by_cases h5:65≤c<;>by_cases h6:c≤70
 all_goals first
   | omega
   | (have hd:isDigitI c=true:=by simp[isDigitI];omega
      go_enter Tryz.func144,Tryz.ntmps144
      go_wp2_with (go_at_call 111;refine (rdigit_any _ _).mono ?_;rintro e w' ⟨rfl,rfl⟩)
      go_ret2
      exact ⟨ret_two' (by unfold hexI;(repeat' split)<;>omega) (by simp[isHexI];omega),rfl⟩)
   | (have hd:isDigitI c=false:=by simp[isDigitI];omega
      go_enter Tryz.func144,Tryz.ntmps144
      go_wp2_with (go_at_call 111;refine (rdigit_any _ _).mono ?_;rintro e w' ⟨rfl,rfl⟩)
      go_ret2
      exact ⟨ret_two' (by unfold hexI;(repeat' split)<;>omega) (by simp[isHexI];omega),rfl⟩)
end
section
open Go.RowKit
def sevenI (j:Nat):Int:=[91,93,123,125,44,58,34].getD j 0
def NoSeven (c:Int)(k:Nat):Prop:=∀ j:Nat,j<k→c≠sevenI j
theorem noSeven_zero (c:Int):NoSeven c 0:=fun _ h=>absurd h (by omega)
theorem noSeven_succ {c:Int} {k:Nat} (h:NoSeven c k) (e:c≠sevenI k):NoSeven c (k+1):=by
 intro j hj
 by_cases hjk:j=k
 ·subst hjk;exact e
 ·exact h j (by omega)
theorem seven_hit {c:Int} {k:Nat} (_:NoSeven c k) (hk:k<7) (h:c=sevenI k):(k:Int)+2=kindI c:=by
 have hk:k=0∨k=1∨k=2∨k=3∨k=4∨k=5∨k=6:=by omega
 rcases hk with rfl|rfl|rfl|rfl|rfl|rfl|rfl<;>subst h<;>rfl
theorem seven_miss {c:Int} (h:NoSeven c 7) (hb:isBlankI c=false) :
   kindI c=if c=45∨isDigitI c=true then 9 else if c=116∨c=102∨c=110 then 10 else 0:=by
 have g0:c≠91:=h 0 (by omega)
 have g1:c≠93:=h 1 (by omega)
 have g2:c≠123:=h 2 (by omega)
 have g3:c≠125:=h 3 (by omega)
 have g4:c≠44:=h 4 (by omega)
 have g5:c≠58:=h 5 (by omega)
 have g6:c≠34:=h 6 (by omega)
 have g7:c≠32∧c≠9∧c≠10∧c≠13:=by
   simp[isBlankI] at hb;omega
 unfold kindI
 rw[if_neg g7.1,if_neg g7.2.1,if_neg g7.2.2.1,if_neg g7.2.2.2,if_neg g0,if_neg g1,if_neg g2,if_neg g3,if_neg g4,if_neg g5,if_neg g6]
 by_cases e:c=45
 ·simp[e]
 by_cases d:isDigitI c=true
 ·have:c≠116∧c≠102∧c≠110:=by simp[isDigitI] at d;omega
  rw[if_neg e,if_neg this.1,if_neg this.2.1,if_neg this.2.2,if_pos d,if_pos (.inr d)]
 ·rw[if_neg e,if_neg (show ¬ (c=45∨isDigitI c=true) from fun h=>h.elim e d)]
  by_cases e1:c=116
  ·simp[e1]
  by_cases e2:c=102
  ·simp[e2]
  by_cases e3:c=110
  ·simp[e3]
  simp[e1,e2,e3,d]
theorem rkind_blank (c:Int) (w:World) (hb:isBlankI c=true) :
   Calls Tryz.prog 89 #[.int .u8 c] w fun e w'=>e=.returned (.int .i64 (kindI c))∧Below w.heap.size w w':=by
 have hk:kindI c=1:=by
   have:c=32∨c=9∨c=10∨c=13:=by simpa [isBlankI,or_assoc] using hb
   rcases this with rfl|rfl|rfl|rfl<;>rfl
 have HK:=hid hk
 clear hk
 go_enter Tryz.func89,Tryz.ntmps89
 go_wp2_with (go_at_call 88;refine (rblank_any _ _).mono ?_;rintro e w' ⟨rfl,rfl⟩)
 go_ret
 exact ⟨ret_int HK.out.symm,Below.refl _ _⟩
theorem rkind_any (c:Int) (w:World) :
   Calls Tryz.prog 89 #[.int .u8 c] w fun e w'=>e=.returned (.int .i64 (kindI c))∧Below w.heap.size w w':=by
 by_cases hb:isBlankI c=true
 ·exact rkind_blank c w hb
 replace hb:isBlankI c=false:=by simpa using hb
 have hm:NoSeven c 7→kindI c=if c=45∨isDigitI c=true then 9 else if c=116∨c=102∨c=110 then 10 else 0:=fun h=>seven_miss h hb
 have HM:=hid hm
 clear hm
 go_enter Tryz.func89,Tryz.ntmps89
 go_wp2_with (go_at_call 88;refine (rblank_any _ _).mono ?_;rintro e w' ⟨rfl,rfl⟩)
 go_loop [9] (fun i => ∃ k:Nat,k≤7∧i=.int .i64 k∧NoSeven c k) (fun i=>7-(intOf i).toNat)
 case atStart=>exact ⟨0,by omega,rfl,noSeven_zero c⟩
 case round =>
   obtain ⟨k,hk,rfl,hno⟩:=hrel
   by_cases hlt:k<7
   ·have hk:k=0∨k=1∨k=2∨k=3∨k=4∨k=5∨k=6:=by omega
    rcases hk with rfl|rfl|rfl|rfl|rfl|rfl|rfl
    all_goals
      go_wp2
      ·rename_i h _
       have g:=seven_hit hno (by omega) (beq_iff_eq.1 h)
       go_ret
       exact ⟨ret_int g,(Below.refl _ _).alloc (Nat.le_refl _) _⟩
      ·rename_i h
       have g:=noSeven_succ hno (beq_eq_false_iff_ne.1 h)
       go_round
       case rel=>exact ⟨_,Nat.succ_le_of_lt hlt,rfl,g⟩
       case measure=>simp[intOf]
   ·obtain rfl:k=7:=by omega
    have hf:=HM.out hno
    have hs:(c==45)=true∧kindI c=9∨(c==45)=false∧isDigitI c=true∧kindI c=9 ∨
        (c==45)=false∧isDigitI c=false∧((c==116)=true∧kindI c=10∨(c==116)=false∧((c==102)=true∧kindI c=10∨(c==102)=false∧((c==110)=true∧kindI c=10∨(c==110)=false∧kindI c=0))):=by
      rw[hf]
      by_cases e:c=45
      ·simp[e]
      by_cases d:isDigitI c=true
      ·simp[e,d]
      by_cases e1:c=116
      ·simp[e1]
      by_cases e2:c=102
      ·simp[e2]
      by_cases e3:c=110
      ·simp[e3]
      simp[e,d,e1,e2,e3]
    clear hf HM
    rcases hs with ⟨e,g⟩|⟨e,d,g⟩|⟨e,d,⟨f,g⟩|⟨f,⟨f2,g⟩|⟨f2,⟨f3,g⟩|⟨f3,g⟩⟩⟩⟩
    all_goals
      have HG:=hid g
      clear g
      go_wp2_with (go_at_call 111;refine (rdigit_any _ _).mono ?_;rintro e w' ⟨rfl,rfl⟩)
      go_ret
      exact ⟨ret_int HG.out.symm,(Below.refl _ _).alloc (Nat.le_refl _) _⟩
end
section
def nums (l:List UInt8):List Int:=l.map fun c=>(c.toNat:Int)
def lowU (sg lf:Int):Int:=if lf=2∧sg=0 then 160 else if lf=3∧sg=0 then 144 else 128
def highU (sg lf:Int):Int:=if lf=2∧sg=13 then 159 else if lf=3∧sg=4 then 143 else 191
def okU (sg lf c:Int):Bool:=if lf=0 then decide (c<128∨194≤c∧c<245) else decide (lowU sg lf≤c∧c≤highU sg lf)
def sgU (sg lf c:Int):Int:=if lf=0 then (if c<128 then c else if c<224 then c-192 else if c<240 then c-224 else c-240) else sg*64+(c-128)
def lfU (lf c:Int):Int:=if lf=0 then (if c<128 then 0 else if c<224 then 1 else if c<240 then 2 else 3) else lf-1
def StU (sg lf:Int):Prop:=0≤sg∧(lf=0∧sg≤1114111∨lf=1∧sg≤17407∨lf=2∧sg≤271∨lf=3∧sg≤4)
theorem stU_zero:StU 0 0:=by unfold StU;omega
theorem okU_zero {sg c:Int} (h:okU sg 0 c=true):c<128∨194≤c∧c<245:=by
 unfold okU at h
 rw[if_pos rfl] at h
 exact of_decide_eq_true h
theorem okU_more {sg lf c:Int} (hl:lf≠0) (h:okU sg lf c=true):lowU sg lf≤c∧c≤highU sg lf:=by
 unfold okU at h
 rw[if_neg hl] at h
 exact of_decide_eq_true h
theorem lowU_in (sg lf:Int):128≤lowU sg lf∧lowU sg lf≤160:=by unfold lowU;(repeat' split)<;>omega
theorem highU_in (sg lf:Int):143≤highU sg lf∧highU sg lf≤191:=by unfold highU;(repeat' split)<;>omega
theorem okU_bd {sg lf c:Int} (hl:lf≠0) (h:okU sg lf c=true):128≤c∧c≤191:=by
 have:=okU_more hl h
 have:=lowU_in sg lf
 have:=highU_in sg lf
 omega
theorem stU_step {sg lf c:Int} (h:StU sg lf) (h0:0≤c) (hk:okU sg lf c=true):StU (sgU sg lf c) (lfU lf c):=by
 by_cases hl:lf=0
 ·subst hl
  have:=okU_zero hk
  unfold StU sgU lfU
  simp only [if_true]
  repeat' split
  all_goals omega
 ·have:=okU_more hl hk
  have g:=okU_bd hl hk
  have e1:sgU sg lf c=sg*64+(c-128):=by unfold sgU;rw[if_neg hl]
  have e2:lfU lf c=lf-1:=by unfold lfU;rw[if_neg hl]
  have e3:lf=3∧sg=4→highU sg lf=143:=by rintro ⟨rfl,rfl⟩;rfl
  rw[e1,e2]
  unfold StU at h ⊢
  omega
def runU:Int→Int→List UInt8→Int→Int
 | _,lf,[],k=>if 0<lf then k else -1
 | sg,lf,c :: l,k=>if okU sg lf c.toNat then runU (sgU sg lf c.toNat) (lfU lf c.toNat) l (k+1) else k
def badU (l:List UInt8):Int:=runU 0 0 l 0
end
end Go.Proofs.YtnokhgfifbkflaaGreat
