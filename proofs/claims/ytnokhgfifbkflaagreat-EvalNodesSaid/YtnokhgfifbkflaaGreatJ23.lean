/- Lemmas. -/
import Derived.Test.YtnokhgfifbkflaaGreatJ22
set_option maxRecDepth 100000
set_option maxHeartbeats 8000000
set_option linter.unusedVariables false
namespace Go.Proofs.YtnokhgfifbkflaaGreat
open Go.Lib (hid)
section
open Go.RowKit
theorem callee_done {W w1 w2:World} {t:Tree} {x:V6} (o1:Own w1 W.heap.size 125 zero9) (hb1:Below W.heap.size W w1) (hk:VKept w1.heap.size w2.heap.size w2 t x) (hb2:Below w1.heap.size w1 w2) (b:Bool) (k f:Int) :
   Own w2 W.heap.size 125 zero9∧Own (put9 w2 W.heap.size x.kd x.fr x.to ⟨x.tx.toArray⟩ x.A x.n x.c x.B x.m x.d b k f) W.heap.size 125 (cells9 x.kd x.fr x.to ⟨x.tx.toArray⟩ x.A x.n x.c x.B x.m x.d b k f) ∧
   Below W.heap.size W (put9 w2 W.heap.size x.kd x.fr x.to ⟨x.tx.toArray⟩ x.A x.n x.c x.B x.m x.d b k f) ∧
   VKept W.heap.size (put9 w2 W.heap.size x.kd x.fr x.to ⟨x.tx.toArray⟩ x.A x.n x.c x.B x.m x.d b k f).heap.size (put9 w2 W.heap.size x.kd x.fr x.to ⟨x.tx.toArray⟩ x.A x.n x.c x.B x.m x.d b k f) t x:=by
 have o2:=o1.stay hb2 o1.inside
 have hin:=o1.inside
 refine ⟨o2,put9_own o2 _ _ _ _ _ _ _ _ _ _ _ _ _,put9_below (hb1.trans (hb2.mono hb1.size)) _ _ _ _ _ _ _ _ _ _ _ _ _,fun u hu=>hk u (fun b h1 h2 => ?_)⟩
 exact (hu b (by omega) (by rw[put9_size];exact h2)).trans (put9_high (by omega) _ _ _ _ _ _ _ _ _ _ _ _ _)
theorem zero_done {W w1:World} (o1:Own w1 W.heap.size 125 zero9) (hb1:Below W.heap.size W w1) (k f:Int) :
   Own (put9 w1 W.heap.size 0 0 0 ⟨#[]⟩ none 0 0 none 0 0 false k f) W.heap.size 125 (cells9 0 0 0 ⟨#[]⟩ none 0 0 none 0 0 false k f) ∧
   Below W.heap.size W (put9 w1 W.heap.size 0 0 0 ⟨#[]⟩ none 0 0 none 0 0 false k f) ∧
   VKept W.heap.size (put9 w1 W.heap.size 0 0 0 ⟨#[]⟩ none 0 0 none 0 0 false k f).heap.size (put9 w1 W.heap.size 0 0 0 ⟨#[]⟩ none 0 0 none 0 0 false k f) zeroT ⟨0,0,0,[],none,0,0,none,0,0⟩ :=
 ⟨put9_own o1 _ _ _ _ _ _ _ _ _ _ _ _ _,put9_below hb1 _ _ _ _ _ _ _ _ _ _ _ _ _,fun u _=>leaf_is u 0 0 0 []⟩
theorem rkind_at (c:UInt8) (kd:Int) (h:kindI c.toNat=kd) (w:World):Calls Tryz.prog 89 #[.int .u8 c.toNat] w fun e w'=>e=.returned (.int .i64 kd)∧Below w.heap.size w w':=by
 subst h
 exact rkind_any _ _
theorem rsome_quo (s:ByteArray) (k:Nat) (cl:Bool) (m:Int) (hs:s.size≤50000) (hk:k<s.size) (hkd:kindI s[k].toNat=8) (W:World) (P:PartR) (HC:∀ w,Calls Tryz.prog 90 #[.string s,.int .i64 k] w fun e w'=>PartP w P e w') :
   Calls Tryz.prog 60 #[.string s,.int .i64 k,.int .i64 m,.bool cl] W fun e w'=>PartP W P e w':=by
 obtain ⟨pv,pb,pp,pf⟩:=P
 have HC:=hid HC
 go_enter Tryz.func60,Tryz.ntmps60
 go_wp2_with (first
   | (go_at_call 89
      go_must (
        refine (rkind_at s[k] 8 hkd _).mono ?_
        rintro e w1 ⟨rfl,hb1⟩
        have o1:Own w1 W.heap.size 125 zero9:=(Own.fresh W 125 zero9).stay hb1 (by simp)
        have hb1:=(below1 W (.cells zero9 125)).trans (hb1.mono (by simp))
        have H1:=hid (And.intro o1 hb1)
        clear o1 hb1))
   | (go_at_call 90
      go_must (
        refine (HC.out _).mono ?_
        rintro e w2 ⟨x,rfl,hk2,hb2⟩
        obtain ⟨o4,hO,hT,hV⟩:=callee_done H1.out.1 H1.out.2 hk2 hb2 pb pp pf
        obtain ⟨p0,p1,p2,p3,p4,p5,p6,p7,p8,f0,f1,f2,f3,f4,f5,f6,f7,f8⟩:=nine_facts o4
        unfold put9 at hO hT hV
        have HO:=hid hO
        have HT:=hid hT
        have HV:=hid hV
        clear hO hT hV o4)))
 refine bodyPost_ret (results_cell_row rfl _ _ W.heap.size _ _ (0,0) _ rfl HO.out Tryz.underlying125 rfl part_size) rfl ?_
 exact ⟨x,rfl,HV.out,HT.out⟩
theorem rsome_num (s:ByteArray) (k:Nat) (cl:Bool) (m:Int) (hs:s.size≤50000) (hk:k<s.size) (hkd:kindI s[k].toNat=9) (W:World) (P:PartR) (HC:∀ w,Calls Tryz.prog 91 #[.string s,.int .i64 k,.bool cl] w fun e w'=>PartP w P e w') :
   Calls Tryz.prog 60 #[.string s,.int .i64 k,.int .i64 m,.bool cl] W fun e w'=>PartP W P e w':=by
 obtain ⟨pv,pb,pp,pf⟩:=P
 have HC:=hid HC
 go_enter Tryz.func60,Tryz.ntmps60
 go_wp2_with (first
   | (go_at_call 89
      go_must (
        refine (rkind_at s[k] 9 hkd _).mono ?_
        rintro e w1 ⟨rfl,hb1⟩
        have o1:Own w1 W.heap.size 125 zero9:=(Own.fresh W 125 zero9).stay hb1 (by simp)
        have hb1:=(below1 W (.cells zero9 125)).trans (hb1.mono (by simp))
        have H1:=hid (And.intro o1 hb1)
        clear o1 hb1))
   | (go_at_call 91
      go_must (
        refine (HC.out _).mono ?_
        rintro e w2 ⟨x,rfl,hk2,hb2⟩
        obtain ⟨o4,hO,hT,hV⟩:=callee_done H1.out.1 H1.out.2 hk2 hb2 pb pp pf
        obtain ⟨p0,p1,p2,p3,p4,p5,p6,p7,p8,f0,f1,f2,f3,f4,f5,f6,f7,f8⟩:=nine_facts o4
        unfold put9 at hO hT hV
        have HO:=hid hO
        have HT:=hid hT
        have HV:=hid hV
        clear hO hT hV o4)))
 refine bodyPost_ret (results_cell_row rfl _ _ W.heap.size _ _ (0,0) _ rfl HO.out Tryz.underlying125 rfl part_size) rfl ?_
 exact ⟨x,rfl,HV.out,HT.out⟩
theorem rsome_wrd (s:ByteArray) (k:Nat) (cl:Bool) (m:Int) (hs:s.size≤50000) (hk:k<s.size) (hkd:kindI s[k].toNat=10) (W:World) (P:PartR) (HC:∀ w,Calls Tryz.prog 92 #[.string s,.int .i64 k] w fun e w'=>PartP w P e w') :
   Calls Tryz.prog 60 #[.string s,.int .i64 k,.int .i64 m,.bool cl] W fun e w'=>PartP W P e w':=by
 obtain ⟨pv,pb,pp,pf⟩:=P
 have HC:=hid HC
 go_enter Tryz.func60,Tryz.ntmps60
 go_wp2_with (first
   | (go_at_call 89
      go_must (
        refine (rkind_at s[k] 10 hkd _).mono ?_
        rintro e w1 ⟨rfl,hb1⟩
        have o1:Own w1 W.heap.size 125 zero9:=(Own.fresh W 125 zero9).stay hb1 (by simp)
        have hb1:=(below1 W (.cells zero9 125)).trans (hb1.mono (by simp))
        have H1:=hid (And.intro o1 hb1)
        clear o1 hb1))
   | (go_at_call 92
      go_must (
        refine (HC.out _).mono ?_
        rintro e w2 ⟨x,rfl,hk2,hb2⟩
        obtain ⟨o4,hO,hT,hV⟩:=callee_done H1.out.1 H1.out.2 hk2 hb2 pb pp pf
        obtain ⟨p0,p1,p2,p3,p4,p5,p6,p7,p8,f0,f1,f2,f3,f4,f5,f6,f7,f8⟩:=nine_facts o4
        unfold put9 at hO hT hV
        have HO:=hid hO
        have HT:=hid hT
        have HV:=hid hV
        clear hO hT hV o4)))
 refine bodyPost_ret (results_cell_row rfl _ _ W.heap.size _ _ (0,0) _ rfl HO.out Tryz.underlying125 rfl part_size) rfl ?_
 exact ⟨x,rfl,HV.out,HT.out⟩
theorem rsome_arr (s:ByteArray) (k:Nat) (cl:Bool) (n:Nat) (hs:s.size≤50000) (hk:k<s.size) (hkd:kindI s[k].toNat=2) (hn:n≤100000) (W:World) (P:PartR) (HC:∀ w,Calls Tryz.prog 93 #[.string s,.int .i64 k,.int .i64 ((n:Int)+1),.bool cl] w fun e w'=>PartP w P e w') :
   Calls Tryz.prog 60 #[.string s,.int .i64 k,.int .i64 ((n:Int)+1),.bool cl] W fun e w'=>PartP W P e w':=by
 obtain ⟨pv,pb,pp,pf⟩:=P
 have HC:=hid HC
 have hn1:¬ ((n:Int)+1)<1:=by omega
 go_enter Tryz.func60,Tryz.ntmps60
 go_wp2_with (first
   | (go_at_call 89
      go_must (
        refine (rkind_at s[k] 2 hkd _).mono ?_
        rintro e w1 ⟨rfl,hb1⟩
        have o1:Own w1 W.heap.size 125 zero9:=(Own.fresh W 125 zero9).stay hb1 (by simp)
        have hb1:=(below1 W (.cells zero9 125)).trans (hb1.mono (by simp))
        have H1:=hid (And.intro o1 hb1)
        clear o1 hb1))
   | (go_at_call 93
      go_must (
        refine (HC.out _).mono ?_
        rintro e w2 ⟨x,rfl,hk2,hb2⟩
        obtain ⟨o4,hO,hT,hV⟩:=callee_done H1.out.1 H1.out.2 hk2 hb2 pb pp pf
        obtain ⟨p0,p1,p2,p3,p4,p5,p6,p7,p8,f0,f1,f2,f3,f4,f5,f6,f7,f8⟩:=nine_facts o4
        unfold put9 at hO hT hV
        have HO:=hid hO
        have HT:=hid hT
        have HV:=hid hV
        clear hO hT hV o4)))
 refine bodyPost_ret (results_cell_row rfl _ _ W.heap.size _ _ (0,0) _ rfl HO.out Tryz.underlying125 rfl part_size) rfl ?_
 exact ⟨x,rfl,HV.out,HT.out⟩
theorem rsome_obj (s:ByteArray) (k:Nat) (cl:Bool) (n:Nat) (hs:s.size≤50000) (hk:k<s.size) (hkd:kindI s[k].toNat=4) (hn:n≤100000) (W:World) (P:PartR) (HC:∀ w,Calls Tryz.prog 94 #[.string s,.int .i64 k,.int .i64 ((n:Int)+1),.bool cl] w fun e w'=>PartP w P e w') :
   Calls Tryz.prog 60 #[.string s,.int .i64 k,.int .i64 ((n:Int)+1),.bool cl] W fun e w'=>PartP W P e w':=by
 obtain ⟨pv,pb,pp,pf⟩:=P
 have HC:=hid HC
 have hn1:¬ ((n:Int)+1)<1:=by omega
 go_enter Tryz.func60,Tryz.ntmps60
 go_wp2_with (first
   | (go_at_call 89
      go_must (
        refine (rkind_at s[k] 4 hkd _).mono ?_
        rintro e w1 ⟨rfl,hb1⟩
        have o1:Own w1 W.heap.size 125 zero9:=(Own.fresh W 125 zero9).stay hb1 (by simp)
        have hb1:=(below1 W (.cells zero9 125)).trans (hb1.mono (by simp))
        have H1:=hid (And.intro o1 hb1)
        clear o1 hb1))
   | (go_at_call 94
      go_must (
        refine (HC.out _).mono ?_
        rintro e w2 ⟨x,rfl,hk2,hb2⟩
        obtain ⟨o4,hO,hT,hV⟩:=callee_done H1.out.1 H1.out.2 hk2 hb2 pb pp pf
        obtain ⟨p0,p1,p2,p3,p4,p5,p6,p7,p8,f0,f1,f2,f3,f4,f5,f6,f7,f8⟩:=nine_facts o4
        unfold put9 at hO hT hV
        have HO:=hid hO
        have HT:=hid hT
        have HV:=hid hV
        clear hO hT hV o4)))
 refine bodyPost_ret (results_cell_row rfl _ _ W.heap.size _ _ (0,0) _ rfl HO.out Tryz.underlying125 rfl part_size) rfl ?_
 exact ⟨x,rfl,HV.out,HT.out⟩
theorem rsome_deep (s:ByteArray) (k:Nat) (cl:Bool) (m:Int) (hs:s.size≤50000) (hk:k<s.size) (kd:Int) (hkd:kindI s[k].toNat=kd) (h:kd=2∨kd=4) (W:World) :
   Calls Tryz.prog 60 #[.string s,.int .i64 k,.int .i64 0,.bool cl] W fun e w'=>PartP W ⟨zeroT,false,k,12⟩ e w':=by
 rcases h with rfl|rfl
 all_goals go_enter Tryz.func60,Tryz.ntmps60
 all_goals
   go_wp2_with (
     go_at_call 89
     go_must (
       refine (rkind_at s[k] _ hkd _).mono ?_
       rintro e w1 ⟨rfl,hb1⟩
       have o4:Own w1 W.heap.size 125 zero9:=(Own.fresh W 125 zero9).stay hb1 (by simp)
       have hb1:=(below1 W (.cells zero9 125)).trans (hb1.mono (by simp))
       obtain ⟨hO,hT,hV⟩:=zero_done o4 hb1 k 12
       obtain ⟨p0,p1,p2,p3,p4,p5,p6,p7,p8,f0,f1,f2,f3,f4,f5,f6,f7,f8⟩:=nine_facts o4
       unfold put9 at hO hT hV
       have HO:=hid hO
       have HT:=hid hT
       have HV:=hid hV
       clear hO hT hV o4
       clear hb1))
   refine bodyPost_ret (results_cell_row rfl _ _ W.heap.size _ _ (0,0) _ rfl HO.out Tryz.underlying125 rfl part_size) rfl ?_
   exact ⟨⟨0,0,0,[],none,0,0,none,0,0⟩,rfl,HV.out,HT.out⟩
theorem rsome_bad (s:ByteArray) (k:Nat) (cl:Bool) (m:Int) (hs:s.size≤50000) (hk:k<s.size) (kd:Int) (hkd:kindI s[k].toNat=kd) (h:(kd==8)=false∧(kd==9)=false∧(kd==10)=false∧(kd==2)=false∧(kd==4)=false) (W:World) :
   Calls Tryz.prog 60 #[.string s,.int .i64 k,.int .i64 m,.bool cl] W fun e w'=>PartP W ⟨zeroT,false,k,8⟩ e w':=by
 obtain ⟨h8,h9,h10,h2,h4⟩:=h
 go_enter Tryz.func60,Tryz.ntmps60
 all_goals
   go_wp2_with (
     go_at_call 89
     go_must (
       refine (rkind_at s[k] _ hkd _).mono ?_
       rintro e w1 ⟨rfl,hb1⟩
       have o4:Own w1 W.heap.size 125 zero9:=(Own.fresh W 125 zero9).stay hb1 (by simp)
       have hb1:=(below1 W (.cells zero9 125)).trans (hb1.mono (by simp))
       obtain ⟨hO,hT,hV⟩:=zero_done o4 hb1 k 8
       obtain ⟨p0,p1,p2,p3,p4,p5,p6,p7,p8,f0,f1,f2,f3,f4,f5,f6,f7,f8⟩:=nine_facts o4
       unfold put9 at hO hT hV
       have HO:=hid hO
       have HT:=hid hT
       have HV:=hid hV
       clear hO hT hV o4
       clear hb1))
   refine bodyPost_ret (results_cell_row rfl _ _ W.heap.size _ _ (0,0) _ rfl HO.out Tryz.underlying125 rfl part_size) rfl ?_
   exact ⟨⟨0,0,0,[],none,0,0,none,0,0⟩,rfl,HV.out,HT.out⟩
theorem rsome_all (s:ByteArray) (cl:Bool) (hs:s.size≤50000):∀ n:Nat,n≤1000→SomeC s cl n:=by
 intro n
 induction n with
 | zero =>
   intro _ k hk W
   unfold someR
   rw[getD_at s k hk]
   show Calls _ _ #[.string s,.int .i64 k,.int .i64 0,.bool cl] _ _
   split
   ·rename_i h;exact rsome_quo s k cl _ hs hk h W _ (fun w=>rquoted_any s k (by omega) hk w _ rfl)
   split
   ·rename_i h;exact rsome_num s k cl _ hs hk h W _ (fun w=>rnumR_any s k cl hs hk w _ rfl)
   split
   ·rename_i h;exact rsome_wrd s k cl _ hs hk h W _ (fun w=>rwordR_any s k hs hk w _ rfl)
   rename_i h8 h9 h10
   by_cases h:kindI s[k].toNat=2∨kindI s[k].toNat=4
   ·rw[if_pos h]
    exact rsome_deep s k cl 0 hs hk (kindI s[k].toNat) rfl h W
   ·rw[if_neg h]
    exact rsome_bad s k cl _ hs hk (kindI s[k].toNat) rfl ⟨beq_eq_false_iff_ne.2 h8,beq_eq_false_iff_ne.2 h9,beq_eq_false_iff_ne.2 h10,beq_eq_false_iff_ne.2 (fun e=>h (.inl e)),beq_eq_false_iff_ne.2 (fun e=>h (.inr e))⟩ W
 | succ n ih =>
   intro hn k hk W
   have HS:=ih (by omega)
   unfold someR
   rw[getD_at s k hk]
   rw[show ((n+1:Nat):Int)=(n:Int)+1 from rfl]
   split
   ·rename_i h;exact rsome_quo s k cl _ hs hk h W _ (fun w=>rquoted_any s k (by omega) hk w _ rfl)
   split
   ·rename_i h;exact rsome_num s k cl _ hs hk h W _ (fun w=>rnumR_any s k cl hs hk w _ rfl)
   split
   ·rename_i h;exact rsome_wrd s k cl _ hs hk h W _ (fun w=>rwordR_any s k hs hk w _ rfl)
   split
   ·rename_i h;exact rsome_arr s k cl n hs hk h (by omega) W _ (fun w=>rarr_any s cl n k hs (by omega) HS hk w)
   split
   ·rename_i h;exact rsome_obj s k cl n hs hk h (by omega) W _ (fun w=>robj_any s cl n k hs (by omega) HS hk w)
   ·rename_i h8 h9 h10 h2 h4
    exact rsome_bad s k cl _ hs hk (kindI s[k].toNat) rfl ⟨beq_eq_false_iff_ne.2 h8,beq_eq_false_iff_ne.2 h9,beq_eq_false_iff_ne.2 h10,beq_eq_false_iff_ne.2 h2,beq_eq_false_iff_ne.2 h4⟩ W
end
end Go.Proofs.YtnokhgfifbkflaaGreat
