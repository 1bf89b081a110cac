/- Lemmas. -/
import Derived.Test.YtbpilcklglhloaaGreatDoorJ22
set_option maxRecDepth 100000
set_option maxHeartbeats 8000000
set_option linter.unusedVariables false
namespace Go.Proofs.YtbpilcklglhloaaGreatDoor
open Go.Lib (hid)
section
open Go.RowKit
structure RestW where
 lines:Bool
 opens:Value
variable {Rs:RestW}
def BldW (Rs:RestW) (w:World) (b:Nat) (F:Nat→Prop) (l:List UInt8):Prop :=
 ∃ p v:Value,(p=.pointer none∨p=.pointer (some ⟨b,0,none⟩))∧Own w b 75 #[p,v,.bool Rs.lines,Rs.opens]∧w.ownsRowF 0 5 1 v l.length (byteCells l)∧F b ∧ ∀ g,v.ownBlock=some g→F g∧g≠b
section
variable {w w':World} {b:Nat} {F G:Nat→Prop} {l:List UInt8}
theorem BldW.mono (h:BldW Rs w b F l) (hs:∀ k,F k→G k):BldW Rs w b G l:=by
 obtain ⟨p,v,hp,ho,hr,hb,hg⟩:=h
 exact ⟨p,v,hp,ho,hr,hs _ hb,fun g e=>⟨hs _ (hg g e).1,(hg g e).2⟩⟩
theorem BldW.stay (h:BldW Rs w b F l) (ht:Touch G w w') (hn:∀ k,k<w.heap.size→F k→¬ G k):BldW Rs w' b F l:=by
 obtain ⟨p,v,hp,ho,hr,hb,hg⟩:=h
 have hl:=hr.lt
 exact ⟨p,v,hp,ht.own ho (hn _ ho.inside hb),ownsRowF_touch hr ht (fun g e=>hn g (hl g e).2 (hg g e).1),hb,hg⟩
theorem BldW.inside (h:BldW Rs w b F l):b<w.heap.size:=by
 obtain ⟨p,v,hp,ho,hr,hb,hg⟩:=h
 exact ho.inside
end
def WroteW (Rs:RestW) (w:World) (b:Nat) (F:Nat→Prop) (l:List UInt8) (v:Value) (e:Ending) (w':World):Prop :=
 e=.returned v∧BldW Rs w' b (fun k=>F k∨w.heap.size≤k) l∧Touch F w w'
theorem copyCheckW_any (b:Nat) (F:Nat→Prop) (l:List UInt8) (w:World) (h:BldW Rs w b F l) :
   Calls Tryz.prog 65 #[.pointer (some ⟨b,0,none⟩)] w (WroteW Rs w b F l (.tuple #[])):=by
 obtain ⟨p,v,hp,ho,hr,hb,hg⟩:=h
 obtain ⟨j,hj,hjs⟩:=Option.map_eq_some_iff.1 bld_size
 have c0:=ho.at 0
 have f0:=ho.free 0
 have hsh:w.shape? b=some (75,4):=by
   have:=ho
   unfold Own at this
   simp[World.shape?,this]
 simp at c0
 have HO:=hid ho
 have HR:=hid hr
 have HG:=hid hg
 clear ho hr hg
 rcases hp with rfl|rfl
 ·go_enter Tryz.func65,Tryz.ntmps65
  go_wp2
  rw[Lib.run_to_unsafe w ⟨b,0,none⟩ Tryz.underlying70 Tryz.underlying144 hj (by rw[hjs];decide) hsh (Nat.zero_lt_succ 3)]
  simp only [Result.andThen]
  rw[Oper.upon_value]
  go_wp2
  rw[run_callFunc_extern Tryz.func93 (by kernel_rfl) (by kernel_rfl) (by kernel_rfl) (e:=Extern.AbiNoEscape.same) (by kernel_rfl)]
  rw[Lib.run_noEscape]
  simp only [Result.andThen]
  rw[Oper.upon_value]
  go_wp2
  rw[Lib.run_from_unsafe w ⟨b,0,none⟩ Tryz.underlying144 Tryz.underlying70 hj hsh (by kernel_rfl)]
  simp only [Result.andThen]
  rw[Oper.upon_value]
  go_wp2
  go_end0
  refine ⟨rfl,⟨_,v,.inr rfl,by simpa using HO.out.put 0 (.pointer (some ⟨b,0,none⟩)),?_,.inl hb,fun g e=>⟨.inl (HG.out g e).1,(HG.out g e).2⟩⟩,(Touch.refl _ _).setCell (.inl hb) _⟩
  refine ownsRowF_touch HR.out (Touch.setCell (F:=fun k=>k=b) (Touch.refl _ _) (p:=⟨b,0,none⟩) (.inl rfl) _) (fun g e=>(HG.out g e).2)
 ·go_enter Tryz.func65,Tryz.ntmps65
  go_wp2
  rw[Lib.run_neq_ptr_same w _ Tryz.underlying70 hj]
  go_wp2
  go_end0
  exact ⟨rfl,⟨_,v,.inr rfl,HO.out,HR.out,.inl hb,fun g e=>⟨.inl (HG.out g e).1,(HG.out g e).2⟩⟩,Touch.refl _ _⟩
theorem bldW_put {w w1 w2:World} {b:Nat} {F:Nat→Prop} {l':List UInt8} {p v v':Value} (N:Nat) (hp:p=.pointer none∨p=.pointer (some ⟨b,0,none⟩)) (hb:F b) (hN:w.heap.size≤N) (hbN:b<N)
   (ho:Own w1 b 75 #[p,v,.bool Rs.lines,Rs.opens]) (ht:Touch F w w1) (hg:∀ g,v.ownBlock=some g→(F g∨w.heap.size≤g)∧g≠b) (hr:w2.ownsRowF 0 5 1 v' l'.length (byteCells l')) (hgrow:w1.grownBy w2 v.ownBlock)
   (hwh:∀ k,v'.ownBlock=some k→v.ownBlock=some k∨N≤k) :
   BldW Rs (w2.setCell ⟨b,1,none⟩ v') b (fun k=>F k∨w.heap.size≤k) l'∧Touch F w (w2.setCell ⟨b,1,none⟩ v'):=by
 have hne:v.ownBlock≠some b:=fun e=>(hg b e).2 rfl
 have ho2:Own w2 b 75 #[p,v,.bool Rs.lines,Rs.opens]:=(hgrow.block b ho.inside (fun e=>hne e.symm)).trans ho
 have ht2:Touch F w w2:=ht.grown hgrow (fun k hk=>(hg k hk).1)
 have hin:=ho.inside
 have hne':∀ g,v'.ownBlock=some g→(F g∨w.heap.size≤g)∧g≠b:=fun g hgg=>by
   rcases hwh g hgg with h|h
   ·exact hg g h
   ·exact ⟨.inr (by omega),by omega⟩
 refine ⟨⟨p,v',hp,by simpa using ho2.put 1 v',?_,.inl hb,hne'⟩,ht2.setCell (.inl hb) _⟩
 exact ownsRowF_touch hr (Touch.setCell (F:=fun k=>k=b) (Touch.refl _ _) (p:=⟨b,1,none⟩) (.inl rfl) _) (fun g e=>(hne' g e).2)
theorem writeByteW_any (b:Nat) (F:Nat→Prop) (l:List UInt8) (c:UInt8) (w:World) (h:BldW Rs w b F l) (hlen:l.length≤140000000000000) :
   Calls Tryz.prog 39 #[.pointer (some ⟨b,0,none⟩),.int .u8 c.toNat] w (WroteW Rs w b F (l++[c]) .nilIface):=by
 have HC:=hid (copyCheckW_any b F l w h)
 have hin:=h.inside
 have hFb:F b:=by obtain ⟨p,v,hp,ho,hr,hb,hg⟩:=h;exact hb
 go_enter Tryz.func39,Tryz.ntmps39
 go_wp2_with (go_at_call 65;refine HC.out.mono ?_)
 rintro e w1 ⟨rfl,⟨p,v,hp,ho,hr,hb,hg⟩,ht⟩
 have c0:=ho.at 0
 have c1:=ho.at 1
 simp at c0 c1
 have f1:=ho.free 1
 have HO:=hid ho
 have HG:=hid hg
 have HT:=hid ht
 have hsz:=ht.size
 clear ho hg ht
 go_wp2_with (at_builtin;refine bld_append rfl _ _ rfl _ _ _ rfl (hr.alloc _) ⟨w1.heap.size,0,none⟩ 1 1 [.int .u8 c.toNat] rfl rfl ?c1 ?c2 ?c3 ?_)
 case c1 =>
   intro j u hj
   match j,hj with
   | 0,hj=>simp at hj;subst hj;simp[Addr.add]
   | (j+1),hj=>simp at hj
 case c2=>intro u hu;simp at hu;subst hu;rfl
 case c3=>omega
 intro v' w2 hown' hgrow hwh
 have ho1:Own (w1.alloc (.cells #[.int .u8 c.toNat] 5)) b 75 #[p,v,.bool Rs.lines,Rs.opens]:=HO.out.over _
 have hne:v.ownBlock≠some b:=fun e=>(HG.out b e).2 rfl
 have ho2:Own w2 b 75 #[p,v,.bool Rs.lines,Rs.opens]:=(hgrow.block b ho1.inside (fun e=>hne e.symm)).trans ho1
 have d1:=ho2.at 1
 have g1:=ho2.free 1
 have d0:=ho2.at 0
 simp at d1 d0
 have HO2:=hid (bldW_put w.heap.size hp hFb (Nat.le_refl _) hin ho1 (HT.out.alloc _) HG.out (l':=l++[c]) (by simpa [byteCells] using hown') hgrow (fun k hk=>(hwh k hk).imp id (fun h=>by (try simp at h);omega)))
 obtain ⟨g,cap,rfl⟩:=ownsRowF_form hown' (by omega)
 clear hwh hown' hgrow ho1 ho2 hr
 go_wp2
 go_ret
 exact ⟨rfl,HO2.out⟩
theorem writeStringW_any (b:Nat) (F:Nat→Prop) (l:List UInt8) (s:ByteArray) (w:World) (h:BldW Rs w b F l) (hlen:l.length+s.size≤140000000000000) :
   Calls Tryz.prog 40 #[.pointer (some ⟨b,0,none⟩),.string s] w (WroteW Rs w b F (l++s.data.toList) (.tuple #[.int .i64 s.size,.nilIface])):=by
 have HC:=hid (copyCheckW_any b F l w h)
 have hin:=h.inside
 have hFb:F b:=by obtain ⟨p,v,hp,ho,hr,hb,hg⟩:=h;exact hb
 go_enter Tryz.func40,Tryz.ntmps40
 go_wp2_with (go_at_call 65;refine HC.out.mono ?_)
 rintro e w1 ⟨rfl,⟨p,v,hp,ho,hr,hb,hg⟩,ht⟩
 have c0:=ho.at 0
 have c1:=ho.at 1
 simp at c0 c1
 have f1:=ho.free 1
 have HO:=hid ho
 have HG:=hid hg
 have HT:=hid ht
 have hsz:=ht.size
 clear ho hg ht
 go_wp2_with (at_builtin;refine bld_append_str rfl _ _ rfl _ _ _ rfl hr s rfl ?c3 ?_)
 case c3=>omega
 intro v' w2 hown' hgrow hwh
 have ho1:=HO.out
 have hne:v.ownBlock≠some b:=fun e=>(HG.out b e).2 rfl
 have ho2:Own w2 b 75 #[p,v,.bool Rs.lines,Rs.opens]:=(hgrow.block b ho1.inside (fun e=>hne e.symm)).trans ho1
 have d1:=ho2.at 1
 have g1:=ho2.free 1
 have d0:=ho2.at 0
 simp at d1 d0
 have HO2:=hid (bldW_put w.heap.size hp hFb (Nat.le_refl _) hin ho1 HT.out HG.out (l':=l++s.data.toList) (by rw[byteCells_append,List.length_append];exact hown') hgrow (fun k hk=>(hwh k hk).imp id (fun h=>by omega)))
 obtain ⟨a,cap,rfl⟩:=ownsRowF_slice hown'
 clear hwh hown' hgrow ho1 ho2 hr
 go_wp2
 go_ret2
 exact ⟨rfl,HO2.out⟩
theorem stringW_any (b:Nat) (F:Nat→Prop) (l:List UInt8) (w:World) (h:BldW Rs w b F l) (h0:l≠[]) (B:Nat) (hF:∀ k,F k→B≤k) (hlen:l.length≤140000000000000) :
   Calls Tryz.prog 27 #[.pointer (some ⟨b,0,none⟩)] w fun e w'=>e=.returned (.string ⟨l.toArray⟩)∧Below B w w':=by
 obtain ⟨p,v,hp,ho,hown,hb,hgv⟩:=h
 have hl0:l.length≠0:=by simpa using h0
 obtain ⟨g,cap,cur,fz,rfl,hbg,hg,hfz,hnc,hcm,hcs,htake⟩:∃ g cap cur fz,v=.slice (some ⟨g,0,none⟩) l.length cap∧0≤g∧w.heap[g]?=some (.cells cur 5 fz)∧fz.2≤l.length*1∧l.length≤cap∧cap≤maxLen∧cur.size=cap*1∧cur.toList.take (l.length*1)=byteCells l:=by
   rcases hown.2 with ⟨_,hz⟩|⟨g,cap,cur,fz,hv,r⟩
   ·exact absurd hz hl0
   ·exact ⟨g,cap,cur,fz,hv,r⟩
 have hBg:B≤g:=hF g (hgv g (by simp[Value.ownBlock])).1
 have c1:w.drew.cell? ⟨b,1,none⟩=some (.slice (some ⟨g,0,none⟩) l.length cap):=by
   have:=Own.at (w:=w.drew) ho 1
   simpa using this
 obtain ⟨i0,hi,hz0,hz1,hz2⟩:=info_parts byte_info
 have hSD:(Builtin.unsafeSliceData_ #[22] 116 #[.slice (some ⟨g,0,none⟩) l.length cap]).run Tryz.prog w.drew=.ok (.pointer (some ⟨g,0,none⟩)) w.drew :=
   Lib.run_unsafeSliceData_row _ _ _ _ _ _ (by omega)
 have hUS:(Builtin.unsafeString_ #[116,3] 9 #[.pointer (some ⟨g,0,none⟩),.int .i64 l.length]).run Tryz.prog w.drew=.ok (.string ⟨l.toArray⟩) (w.drew.freeze ⟨g,0,none⟩ l.length):=by
   refine Lib.run_unsafeString_row w.drew 116 3 9 5 Tryz.underlying116 (by kernel_rfl) g cur.size (by have hg':w.drew.heap[g]?=some (.cells cur 5 fz):=hg;simp[World.shape?,hg']) l h0 (by omega) (by unfold maxLen at hcm;omega) ?_
   intro j x hx
   have:=hown.cells (g:=g) rfl j (.int .u8 x.toNat) (by simp[byteCells,hx])
   exact this
 have HE:=hid (Lib.below_freeze (Below.drew (Below.refl B w)) (p:=⟨g,0,none⟩) hBg l.length)
 go_enter Tryz.func27,Tryz.ntmps27
 go_wp2
 go_region
 all_goals (go_wp2;go_ret;exact ⟨rfl,HE.out⟩)
end
end Go.Proofs.YtbpilcklglhloaaGreatDoor
