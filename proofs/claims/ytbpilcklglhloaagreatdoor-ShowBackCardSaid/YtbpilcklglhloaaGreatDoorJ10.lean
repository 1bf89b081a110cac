/- Lemmas. -/
import Derived.Test.YtbpilcklglhloaaGreatDoorJ09
import Derived.Deep.DeepMust
set_option maxRecDepth 100000
set_option maxHeartbeats 8000000
set_option linter.unusedVariables false
namespace Go.Proofs.YtbpilcklglhloaaGreatDoor
section
open Go.RowKit
def wT:ByteArray:=⟨#[116,114,117,101]⟩
def wF:ByteArray:=⟨#[102,97,108,115,101]⟩
def wN:ByteArray:=⟨#[110,117,108,108]⟩
def tabV:Array Value:=#[.string wT,.int .i64 1,.string wF,.int .i64 1,.string wN,.int .i64 0]
def Tab (w:World):Prop:=∃ t,Own w 0 t tabV
theorem Tab.cells {w:World} (h:Tab w):w.cell? ⟨0,0,none⟩=some (.string wT)∧w.cell? ⟨0,1,none⟩=some (.int .i64 1)∧w.cell? ⟨0,2,none⟩=some (.string wF) ∧
   w.cell? ⟨0,3,none⟩=some (.int .i64 1)∧w.cell? ⟨0,4,none⟩=some (.string wN)∧w.cell? ⟨0,5,none⟩=some (.int .i64 0):=by
 obtain ⟨t,h⟩:=h
 exact ⟨h.at 0,h.at 1,h.at 2,h.at 3,h.at 4,h.at 5⟩
theorem Tab.stay {w w':World} {B:Nat} (h:Tab w) (hb:Below B w w') (hB:0<B):Tab w':=by
 obtain ⟨t,h⟩:=h
 exact ⟨t,h.stay hb hB⟩
theorem at0 (w:World):(Instr.index 180 (.agg #[.string wT,.int .i64 1,.string wF,.int .i64 1,.string wN,.int .i64 0]) (.int .i64 0)).run Tryz.prog w=.ok (.agg #[.string wT,.int .i64 1]) w:=by kernel_rfl
theorem at1 (w:World):(Instr.index 180 (.agg #[.string wT,.int .i64 1,.string wF,.int .i64 1,.string wN,.int .i64 0]) (.int .i64 1)).run Tryz.prog w=.ok (.agg #[.string wF,.int .i64 1]) w:=by kernel_rfl
theorem at2 (w:World):(Instr.index 180 (.agg #[.string wT,.int .i64 1,.string wF,.int .i64 1,.string wN,.int .i64 0]) (.int .i64 2)).run Tryz.prog w=.ok (.agg #[.string wN,.int .i64 0]) w:=by kernel_rfl
theorem zT:wT.size=4:=rfl
theorem zF:wF.size=5:=rfl
theorem zN:wN.size=4:=rfl
theorem hdT (h:0<wT.size):(wT[0].toNat:Int)=116:=rfl
theorem hdF (h:0<wF.size):(wF[0].toNat:Int)=102:=rfl
theorem hdN (h:0<wN.size):(wN[0].toNat:Int)=110:=rfl
theorem below3 (w:World) (a b c:Obj):Below w.heap.size w (((w.alloc a).alloc b).alloc c) :=
 have h:=below2 w a b
 h.alloc h.size c
theorem begun_t (W:World) (h:Tab W) :
   Calls Tryz.prog 115 #[.int .u8 116] W fun e w'=>e=.returned (.string wT)∧Below W.heap.size W w':=by
 obtain ⟨c0,c1,c2,c3,c4,c5⟩:=h.cells
 have i0:=at0
 have zt:0<wT.size:=by decide
 have ht:=hdT zt
 go_enter Tryz.func115,Tryz.ntmps115
 go_wp2
 refine wp_loop_rounds 3 ?_
 rw[rounds_succ]
 go_wp2
 go_ret
 exact ⟨rfl,(Below.refl _ _).alloc (Nat.le_refl _) _⟩
theorem begun_f (W:World) (h:Tab W) :
   Calls Tryz.prog 115 #[.int .u8 102] W fun e w'=>e=.returned (.string wF)∧Below W.heap.size W w':=by
 obtain ⟨c0,c1,c2,c3,c4,c5⟩:=h.cells
 have i0:=at0
 have i1:=at1
 have zt:0<wT.size:=by decide
 have ht:=hdT zt
 have zf:0<wF.size:=by decide
 have hf:=hdF zf
 go_enter Tryz.func115,Tryz.ntmps115
 go_wp2
 refine wp_loop_rounds 3 ?_
 rw[rounds_succ]
 go_wp2
 rw[rounds_succ]
 go_wp2
 go_ret
 exact ⟨rfl,below2 _ _ _⟩
theorem begun_n (W:World) (h:Tab W) :
   Calls Tryz.prog 115 #[.int .u8 110] W fun e w'=>e=.returned (.string wN)∧Below W.heap.size W w':=by
 obtain ⟨c0,c1,c2,c3,c4,c5⟩:=h.cells
 have i0:=at0
 have i1:=at1
 have i2:=at2
 have zt:0<wT.size:=by decide
 have ht:=hdT zt
 have zf:0<wF.size:=by decide
 have hf:=hdF zf
 have zn:0<wN.size:=by decide
 have hn:=hdN zn
 go_enter Tryz.func115,Tryz.ntmps115
 go_wp2
 refine wp_loop_rounds 4 ?_
 rw[rounds_succ]
 go_wp2
 rw[rounds_succ]
 go_wp2
 rw[rounds_succ]
 go_wp2
 go_ret
 exact ⟨rfl,below3 _ _ _ _⟩
end
end Go.Proofs.YtbpilcklglhloaaGreatDoor
