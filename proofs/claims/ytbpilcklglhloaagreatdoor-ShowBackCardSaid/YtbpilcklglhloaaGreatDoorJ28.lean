/- Lemmas. -/
import Derived.Test.YtbpilcklglhloaaGreatDoorJ27
set_option maxRecDepth 100000
set_option maxHeartbeats 8000000
set_option linter.unusedVariables false
namespace Go.Proofs.YtbpilcklglhloaaGreatDoor
section
open Go.RowKit
def UnitC (s:ByteArray) (sec:Bool) (W:World) (t:Nat×Int×Int):Prop :=
 Calls Tryz.prog 124 #[.string s,.bool sec] W fun e w'=>e=.returned (.tuple #[.int .i64 t.1,.int .i64 t.2.1,.int .i64 t.2.2])∧Below W.heap.size W w'
theorem runit_e (s:ByteArray) (sec:Bool) (h:s=ByteArray.empty) (W:World):UnitC s sec W (0,0,0):=by
 subst h
 show Calls _ _ _ _ _
 go_enter Tryz.func124,Tryz.ntmps124
 go_wp2
 refine wp_loop_rounds 3 ?_
 rw[rounds_succ]
 go_wp2
 go_ret3
 exact ⟨rfl,below1 _ _⟩
theorem runit_0 (s:ByteArray) (sec:Bool) (hs:s.size≤100000) (h1:1≤s.size) (e0:¬ (s[0].toNat:Int)=92) (W:World):UnitC s sec W (0,0,if sec then 4 else 3):=by
 have hne:¬ s=ByteArray.empty:=fun e=>by rw[e] at h1;exact absurd h1 (by decide)
 show Calls _ _ _ _ _
 cases sec
 all_goals
   go_enter Tryz.func124,Tryz.ntmps124
   go_wp2
   refine wp_loop_rounds 3 ?_
   rw[rounds_succ]
   go_wp2
   go_ret3
   exact ⟨rfl,below1 _ _⟩
theorem runit_o (s:ByteArray) (sec:Bool) (h1:s.size=1) (e0:(s[0].toNat:Int)=92) (W:World):UnitC s sec W (1,0,0):=by
 have hne:¬ s=ByteArray.empty:=fun e=>by rw[e] at h1;exact absurd h1 (by decide)
 show Calls _ _ _ _ _
 cases sec
 all_goals
   go_enter Tryz.func124,Tryz.ntmps124
   go_wp2
   refine wp_loop_rounds 3 ?_
   rw[rounds_succ]
   go_wp2
   rw[rounds_succ]
   go_wp2
   go_ret3
   exact ⟨rfl,below1 _ _⟩
theorem runit_1 (s:ByteArray) (sec:Bool) (hs:s.size≤100000) (h2:2≤s.size) (e0:(s[0].toNat:Int)=92) (e1:¬ (s[1].toNat:Int)=117) (W:World):UnitC s sec W (1,0,if sec then 4 else 3):=by
 have hne:¬ s=ByteArray.empty:=fun e=>by rw[e] at h2;exact absurd h2 (by decide)
 show Calls _ _ _ _ _
 cases sec
 all_goals
   go_enter Tryz.func124,Tryz.ntmps124
   go_wp2
   refine wp_loop_rounds 3 ?_
   rw[rounds_succ]
   go_wp2
   rw[rounds_succ]
   go_wp2
   go_ret3
   exact ⟨rfl,below1 _ _⟩
theorem u8_int {c:UInt8} {n:Nat} (hn:n<256):c=UInt8.ofNat n↔(c.toNat:Int)=n:=by
 constructor
 ·rintro rfl;rw[UInt8.toNat_ofNat'];omega
 ·intro h;have:n=c.toNat:=by omega
  rw[this];simp
theorem runitR_any (s:ByteArray) (sec:Bool) (hs:s.size≤100000) (W:World):UnitC s sec W (unitR s.data.toList sec):=by
 by_cases h0:s.size=0
 ·have hl:s.data.toList=[]:=drop_none s 0 (by omega)
  have he:s=ByteArray.empty:=ba_ext (by rw[hl];rfl)
  rw[hl]
  exact runit_e s sec he W
 have l0:s.data.toList=s[0] :: s.data.toList.drop 1:=drop_at s 0 (by omega)
 by_cases c0:s[0]=92
 ·have e0:(s[0].toNat:Int)=92:=(u8_int (by decide)).1 c0
  by_cases h1:s.size=1
  ·rw[l0,drop_none s 1 (by omega)]
   have e:unitR [s[0]] sec=(1,0,0):=by show (if s[0]≠92 then _ else _)=_;rw[if_neg (fun h=>h c0)]
   rw[e]
   exact runit_o s sec h1 e0 W
  have l1:s.data.toList.drop 1=s[1] :: s.data.toList.drop 2:=drop_at s 1 (by omega)
  rw[l0,l1]
  by_cases c1:s[1]=117
  ·have e1:(s[1].toNat:Int)=117:=(u8_int (by decide)).1 c1
   obtain ⟨r,hr⟩:∃ r,s.data.toList.drop 2=r:=⟨_,rfl⟩
   have e:unitR (s[0] :: s[1] :: s.data.toList.drop 2) sec=unitD sec (hexR r).1 (hexR r).2 (if 1≤(hexR r).1 then hexI (r.getD 0 0).toNat else -1) (if 2≤(hexR r).1 then hexI (r.getD 1 0).toNat else -1) (s.size-2):=by
     rw[hr]
     show (if s[0]≠92 then _ else if s[1]≠117 then _ else _)=_
     rw[if_neg (fun h=>h c0),if_neg (fun h=>h c1)]
     have:r.length=s.size-2:=by rw[← hr,List.length_drop];rfl
     rw[this]
   rw[e]
   obtain ⟨b1,b2,b3,b4⟩:=hexR_bd r
   have hrl:r.length=s.size-2:=by rw[← hr,List.length_drop];rfl
   rw[hrl] at b2
   have KX:∀ w:World,Calls Tryz.prog 141 #[.string (s.extract 2 s.size)] w fun e w'=>e=.returned (.tuple #[.int .i64 (hexR r).1,.int .i64 (hexR r).2])∧w=w':=fun w=>by
     have:=rhexR_any (s.extract 2 s.size) (by rw[(tail_is s 2).2];omega) w
     rw[(tail_is s 2).1,hr] at this
     exact this
   have hcb:∀ k (h:k<s.size),(0:Int)≤s[k].toNat∧(s[k].toNat:Int)≤255:=fun k h=>⟨Int.natCast_nonneg _,by have:=UInt8.toNat_lt s[k];omega⟩
   have g0:∀ h:2<s.size,r.getD 0 0=s[2]:=fun h=>by rw[← hr,drop_at s 2 h];rfl
   have g1:∀ h:3<s.size,r.getD 1 0=s[3]:=fun h=>by rw[← hr,drop_at s 2 (by omega),drop_at s 3 h];rfl
   generalize (hexR r).1=n at *
   generalize (hexR r).2=v at *
   have KA:1≤n → ∃ z,∀ w:World,∀ h:2<s.size,Calls Tryz.prog 142 #[.int .u8 s[2].toNat] w fun e w'=>e=.returned (.tuple #[.int .i64 (if 1≤n then hexI (r.getD 0 0).toNat else -1),.bool z])∧w=w':=fun h1=>⟨isHexI s[2].toNat,fun w h=>by
     rw[if_pos h1,g0 h]
     exact rhex_any s[2].toNat w (hcb 2 h).1 (hcb 2 h).2⟩
   have KB:2≤n → ∃ z,∀ w:World,∀ h:3<s.size,Calls Tryz.prog 142 #[.int .u8 s[3].toNat] w fun e w'=>e=.returned (.tuple #[.int .i64 (if 2≤n then hexI (r.getD 1 0).toNat else -1),.bool z])∧w=w':=fun h1=>⟨isHexI s[3].toNat,fun w h=>by
     rw[if_pos h1,g1 h]
     exact rhex_any s[3].toNat w (hcb 3 h).1 (hcb 3 h).2⟩
   generalize (if 1≤n then hexI (r.getD 0 0).toNat else -1)=d1 at *
   generalize (if 2≤n then hexI (r.getD 1 0).toNat else -1)=d2 at *
   have h2:2≤s.size:=by omega
   have hn:n=0∨n=1∨n=2∨n=3∨n=4:=by omega
   rcases hn with rfl|rfl|rfl|rfl|rfl
   ·cases sec
    ·exact runit_f0 s hs h2 e0 e1 v b3 b4 b2 d1 d2 KX W
    ·exact runit_t0 s hs h2 e0 e1 v b3 b4 b2 d1 d2 KX W
   ·obtain ⟨z1,K1⟩:=KA (by omega)
    cases sec
    ·exact runit_f1 s hs h2 e0 e1 v b3 b4 b2 d1 d2 KX z1 K1 W
    ·exact runit_t1 s hs h2 e0 e1 v b3 b4 b2 d1 d2 KX z1 K1 W
   ·obtain ⟨z1,K1⟩:=KA (by omega)
    obtain ⟨z2,K2⟩:=KB (by omega)
    cases sec
    ·exact runit_f2 s hs h2 e0 e1 v b3 b4 b2 d1 d2 KX z1 K1 z2 K2 W
    ·exact runit_t2 s hs h2 e0 e1 v b3 b4 b2 d1 d2 KX z1 K1 z2 K2 W
   ·obtain ⟨z1,K1⟩:=KA (by omega)
    obtain ⟨z2,K2⟩:=KB (by omega)
    cases sec
    ·exact runit_f3 s hs h2 e0 e1 v b3 b4 b2 d1 d2 KX z1 K1 z2 K2 W
    ·exact runit_t3 s hs h2 e0 e1 v b3 b4 b2 d1 d2 KX z1 K1 z2 K2 W
   ·obtain ⟨z1,K1⟩:=KA (by omega)
    obtain ⟨z2,K2⟩:=KB (by omega)
    cases sec
    ·exact runit_f4 s hs h2 e0 e1 v b3 b4 b2 d1 d2 KX z1 K1 z2 K2 W
    ·exact runit_t4 s hs h2 e0 e1 v b3 b4 b2 d1 d2 KX z1 K1 z2 K2 W
  ·have e:unitR (s[0] :: s[1] :: s.data.toList.drop 2) sec=(1,0,if sec then 4 else 3):=by
     show (if s[0]≠92 then _ else if s[1]≠117 then _ else _)=_
     rw[if_neg (fun h=>h c0),if_pos c1]
   rw[e]
   exact runit_1 s sec hs (by omega) e0 (fun h=>c1 ((u8_int (by decide)).2 h)) W
 ·have e:unitR (s[0] :: s.data.toList.drop 1) sec=(0,0,if sec then 4 else 3):=by
    show (if s[0]≠92 then _ else _)=_
    rw[if_pos c0]
  rw[l0,e]
  exact runit_0 s sec hs (by omega) (fun h=>c0 ((u8_int (by decide)).2 h)) W
end
end Go.Proofs.YtbpilcklglhloaaGreatDoor
