/- Lemmas. -/
import Derived.Test.YtnokhgfifbkflaaGreatProg
import Derived.Test.YtnokhgfifbkflaaGreatJ24
import Derived.Test.YtnokhgfifbkflaaGreatJ30
import Derived.Test.YtnokhgfifbkflaaGreatJ36
set_option maxRecDepth 100000
set_option maxHeartbeats 8000000
set_option linter.unusedVariables false
set_option linter.unusedSimpArgs false
namespace Go.Proofs.YtnokhgfifbkflaaGreat
open Go.Lib (hid)
section
open Go.RowKit
def FitV (v:Tree):Prop:=ArmT v∧OrdT v 0 1000∧KidT v∧wtT v≤1000
theorem good_rightI {y:Sel} (h:goodB y=true):RightI y:=by
 have f:∀ v:Int,fitsB v=true→okI v:=fun v h=>by unfold fitsB at h;unfold okI;exact of_decide_eq_true h
 unfold goodB at h
 split at h
 ·cases h
 split at h
 ·cases h
 split at h
 ·cases h
 split at h
 ·cases h
 rw[Bool.and_eq_true,Bool.and_eq_true,Bool.and_eq_true,Bool.and_eq_true] at h
 exact ⟨f _ h.1.1.1.1,f _ h.1.1.1.2,f _ h.1.1.2,f _ h.1.2⟩
theorem right_okq {q:List Sgm} (hr:rightQ q=true) (hl:q.length≤8) (hs:∀ g∈q,g.sels.length≤8):OkQ q:=by
 refine ⟨hl,fun g hg=>⟨hs g hg,fun y hy => ?_⟩⟩
 have h:=List.all_eq_true.1 hr g hg
 rw[Bool.and_eq_true] at h
 exact good_rightI (List.all_eq_true.1 h.2 y hy)
end
section
open Go.RowKit
def aliveV:Tree:=.mk 5 0 17 [] [.mk 4 5 16 [] [.mk 2 6 7 [53] [] [],.mk 5 8 15 [] [.mk 2 13 14 [54] [] []] [[97]]] []] [[97]]
def aliveG:List Sgm:=[⟨true,[sqN [97]]⟩]
theorem alive_val:ParseR [123,34,97,34,58,91,53,44,123,34,97,34,58,54,125,93,125] 9=(aliveV,1,17):=by kernel_rfl
theorem alive_qry:queQ [36,46,46,97]=some aliveG:=by kernel_rfl
def seen (l:List Nd):List (Nat×Nat):=l.map fun d=>(d.t.fr,d.p.length)
theorem alive_nds:seen (nodesT aliveV aliveG)=[(5,1),(13,3)]:=by kernel_rfl
theorem alive_okq:OkQ aliveG:=by
 refine ⟨by decide,fun g hg => ?_⟩
 obtain rfl:=List.mem_singleton.1 hg
 refine ⟨by decide,fun y hy => ?_⟩
 obtain rfl:=List.mem_singleton.1 hy
 exact ⟨by unfold okI;decide,by unfold okI;decide,by unfold okI;decide,by unfold okI;decide⟩
theorem alive_ok:OkE aliveV aliveG 1000:=by
 obtain ⟨k,e,he,hs⟩:=parseR_ord _ (by decide) 9 _ _ alive_val
 have h0:k=0:=hs.fr.symm
 subst h0
 have he':e≤17:=he
 exact okE_of hs.nam (by have:=hs.cnt;omega) hs.arm (ordT_mono hs.ord (by omega)) alive_okq
theorem evalAlive_any (W:World) :
   Calls Tryz.prog 6 #[] W fun e w'=>e=.returned (.bool true)∧Below W.heap.size W w':=by
 have KP:Calls Tryz.prog 18 #[.string ⟨#[123,34,97,34,58,91,53,44,123,34,97,34,58,54,125,93,125]⟩,.int .i64 9] W fun e w' => ∃ x:V6,e=.returned (.tuple #[.agg #[.int .i64 x.kd,.int .i64 x.fr,.int .i64 x.to,.string ⟨x.tx.toArray⟩,.slice x.A x.n x.c,.slice x.B x.m x.d],.agg #[.int .i64 1,.int .i64 17]])∧VIs w' aliveV x∧Below W.heap.size W w':=by
   refine (rParse_any ⟨#[123,34,97,34,58,91,53,44,123,34,97,34,58,54,125,93,125]⟩ 9 (by decide) (by decide) (by decide) W).mono ?_
   intro e w' h
   unfold ParseEndR at h
   have hv:ParseR (⟨#[123,34,97,34,58,91,53,44,123,34,97,34,58,54,125,93,125]⟩:ByteArray).data.toList ((9:Nat):Int)=(aliveV,1,17):=alive_val
   rw[hv] at h
   exact h
 have KQ:=hid (fun w=>show Calls Tryz.prog 15 #[.string ⟨#[36,46,46,97]⟩] w fun e w' => ∃ A n c,e=.returned (.tuple #[.slice A n c,.bool true])∧QRd w' A n aliveG∧Below w.heap.size w w' from by
   refine (queC.parse ⟨#[36,46,46,97]⟩ w trivial (by decide)).mono ?_
   rintro e w' ⟨A,n,c,rfl,hr,_,hb⟩
   have hq:queQ (⟨#[36,46,46,97]⟩:ByteArray).data.toList=some aliveG:=alive_qry
   rw[hq] at hr ⊢
   exact ⟨A,n,c,rfl,hr,hb⟩)
 replace KP:=hid KP
 go_enter Tryz.func6,Tryz.ntmps6
 go_upto_region 3 with (first
   | (go_at_call 18
      go_must (
        refine KP.out.mono ?_
        rintro e w1 ⟨⟨k1,f1,t1,x1,A1,n1,c1,B1,m1,d1⟩,rfl,hv,hb1⟩
        have b2:=(below1 w1 (.cells #[.int .i64 k1,.int .i64 f1,.int .i64 t1,.string ⟨x1.toArray⟩,.slice A1 n1 c1,.slice B1 m1 d1] 29))
        have b3:=b2.trans ((below1 (w1.alloc (.cells #[.int .i64 k1,.int .i64 f1,.int .i64 t1,.string ⟨x1.toArray⟩,.slice A1 n1 c1,.slice B1 m1 d1] 29)) (.cells #[.int .i64 1,.int .i64 17] 55)).mono b2.size)
        have HV:=hid (hv.stay b3)
        have HB3:=hid (hb1.trans (b3.mono hb1.size))
        have o:=(Own.fresh w1 29 #[.int .i64 k1,.int .i64 f1,.int .i64 t1,.string ⟨x1.toArray⟩,.slice A1 n1 c1,.slice B1 m1 d1])
        have HO:=hid (o.stay (below1 _ (.cells #[.int .i64 1,.int .i64 17] 55)) o.inside)
        clear hv hb1 b2 b3 o))
   | (go_at_call 15
      go_must (
        refine (KQ.out _).mono ?_
        rintro e w4 ⟨A4,n4,c4,rfl,hq4,hb4⟩
        have o:=HO.out.stay hb4 (by have:=HO.out.inside;exact this)
        have c0:w4.cell? ⟨w1.heap.size,0,none⟩=some (.int .i64 k1):=o.at 0
        have c1':w4.cell? ⟨w1.heap.size,1,none⟩=some (.int .i64 f1):=o.at 1
        have c2:w4.cell? ⟨w1.heap.size,2,none⟩=some (.int .i64 t1):=o.at 2
        have c3:w4.cell? ⟨w1.heap.size,3,none⟩=some (.string ⟨x1.toArray⟩):=o.at 3
        have c4':w4.cell? ⟨w1.heap.size,4,none⟩=some (.slice A1 n1 c1):=o.at 4
        have c5:w4.cell? ⟨w1.heap.size,5,none⟩=some (.slice B1 m1 d1):=o.at 5
        have HB4:=hid (HB3.out.trans (hb4.mono HB3.out.size))
        have KN:=hid (enodes_any aliveV ⟨k1,f1,t1,x1,A1,n1,c1,B1,m1,d1⟩ aliveG A4 n4 c4 1000 w4 (HV.out.stay hb4) hq4 alive_ok)
        unfold EvEnd at KN
        clear o hb4 hq4)))
 go_wp2_with (go_at_call 9
              go_must (
                refine KN.out.mono ?_
                rintro e w5 ⟨A5,m5,c5,rfl,⟨ns,r1,r2,r3⟩,hb5⟩
                have hs:=alive_nds
                have hl:(nodesT aliveV aliveG).length=2:=by have:=congrArg List.length hs;rw[seen,List.length_map] at this;exact this
                obtain rfl:2=m5:=by have:=r1.1;omega
                obtain ⟨eb,eo,rfl,heb,_⟩:=r1.2 (by decide)
                obtain ⟨s0,s1,rfl⟩:∃ a b,ns=[a,b]:=by
                  match ns,r2.trans hl with
                  | [a,b],_=>exact ⟨a,b,rfl⟩
                obtain ⟨d0,d1',hd⟩:∃ a b,nodesT aliveV aliveG=[a,b]:=by
                  match nodesT aliveV aliveG,hl with
                  | [a,b],_=>exact ⟨a,b,rfl⟩
                rw[hd] at r3 hs
                obtain ⟨u1,_,_⟩:=r3 0 s0 d0 rfl rfl
                obtain ⟨u2,_,u3⟩:=r3 1 s1 d1' rfl rfl
                have u4:=u3.1
                have e1:d0.t.fr=5∧d1'.t.fr=13∧d1'.p.length=3:=by
                  unfold seen at hs
                  simp at hs
                  exact ⟨hs.1.1,hs.2.1,hs.2.2⟩
                have g1:w5.cell? ⟨eb,eo+1,none⟩=some (.int .i64 5):=by
                  have:=r1.at rfl (show ([s0,s1]:List EnV)[0]?=some s0 from rfl) (j:=1) (u:=.int .i64 s0.fr) rfl
                  rw[u1,e1.1] at this
                  exact this
                have g2:w5.cell? ⟨eb,eo+3+1,none⟩=some (.int .i64 13):=by
                  have:=r1.at rfl (show ([s0,s1]:List EnV)[1]?=some s1 from rfl) (j:=1) (u:=.int .i64 s1.fr) rfl
                  rw[u2,e1.2.1] at this
                  exact this
                have g3:w5.cell? ⟨eb,eo+3,none⟩=some (.slice s1.S 3 s1.c):=by
                  have:=r1.at rfl (show ([s0,s1]:List EnV)[1]?=some s1 from rfl) (j:=0) (u:=.slice s1.S s1.n s1.c) rfl
                  rw[← u4,e1.2.2] at this
                  exact this
                have HB5:=hid (HB4.out.trans (hb5.mono HB4.out.size))
                clear hb5 r1 r2 r3 hs hl hd u1 u2 u3 u4 e1 heb))
 go_ret
 exact ⟨rfl,HB5.out⟩
end
end Go.Proofs.YtnokhgfifbkflaaGreat
