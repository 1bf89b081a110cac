/- Package tree: Parse, walked. -/
import Derived.Test.YthpkcapooeedeaaDoorJ33
namespace Go.Proofs.YthpkcapooeedeaaDoor
open Go.RowKit
set_option linter.unusedVariables false

theorem results_cc {P : Program} {fn : Func} {p q : Tmp} {ty tz : TypeId} (h : fn.results = #[.cell p ty, .cell q tz]) (tmps : Array Value) (w : World) (g : Nat) (T : TypeId) (cs : Array Value) (fr : Nat × Nat) (d : TypeDesc) (g' : Nat) (T' : TypeId) (cs' : Array Value) (fr' : Nat × Nat) (d' : TypeDesc)
    (hp : tmps.getD p undef = .pointer (some ⟨g, 0, none⟩)) (hg : w.heap[g]? = some (.cells cs T fr)) (hu : P.underlying ty = some d) (hd : (match d with | .struct _ | .array _ _ => true | _ => false) = true) (hi : (P.info? ty).map (·.size) = some cs.size)
    (hp' : tmps.getD q undef = .pointer (some ⟨g', 0, none⟩)) (hg' : w.heap[g']? = some (.cells cs' T' fr')) (hu' : P.underlying tz = some d') (hd' : (match d' with | .struct _ | .array _ _ => true | _ => false) = true) (hi' : (P.info? tz).map (·.size) = some cs'.size) :
    (results fn tmps).run P w = .ok (.tuple #[.agg cs, .agg cs']) w := by
  have h1 : tmps[p]?.getD undef = .pointer (some ⟨g, 0, none⟩) := by simpa using hp
  have h2 : tmps[q]?.getD undef = .pointer (some ⟨g', 0, none⟩) := by simpa using hp'
  simp [results, h, h1, h2, asAddr, run_loadVar_row w g T ty cs fr d hg hu hd hi, run_loadVar_row w g' T' tz cs' fr' d' hg' hu' hd' hi', Result.andThen]
theorem own_two {w w3 : World} {b : Nat} {T : TypeId} {cs : Array Value} (h : Own w b T cs) (hb : Below w.heap.size w w3) (o p : Obj) : Own ((w3.alloc o).alloc p) b T cs := ((h.stay hb h.inside).over o).over p
theorem fresh_one (w : World) (T : TypeId) (cs : Array Value) (p : Obj) : Own ((w.alloc (.cells cs T)).alloc p) w.heap.size T cs := (Own.fresh w T cs).over p
theorem fresh_two (w : World) (T : TypeId) (cs : Array Value) (o : Obj) : Own ((w.alloc o).alloc (.cells cs T)) (w.heap.size + 1) T cs := by
  have := Own.fresh (w.alloc o) T cs
  rwa [show (w.alloc o).heap.size = w.heap.size + 1 by simp] at this

/-- How Parse ends. -/
def ParseEnd (kk : Int) (pp : Nat) (tr : Tree) (w : World) (e : Ending) (w' : World) : Prop := ∃ x : V6, e = .returned (.tuple #[.agg (v6Cells x).toArray, .agg #[.int .i64 kk, .int .i64 pp]]) ∧ (kk = 1 → VIs w' tr x) ∧ Below w.heap.size w w'

set_option maxRecDepth 100000 in
set_option maxHeartbeats 8000000 in
theorem parse_any (A : Option Addr) (len cap : Nat) (l : List UInt8) (d : Int) (W : World) (hx : Rd W W.heap.size A len (byteCells l)) (h2 : len ≤ 2000) (d1 : 1 ≤ d) (d2 : d ≤ 1000) (hT : Tab W) :
    Calls Tryd.prog 6 #[.slice A len cap, .int .i64 d] W (ParseEnd (parseP l d).2.1 (parseP l d).2.2 (treeP l d) W) := by
  have hb : Below W.heap.size W ((W.alloc (.cells zeroV.toArray 27)).alloc (.cells #[.int .i64 0, .int .i64 0] 29)) := ((Below.refl _ _).alloc (Nat.le_refl _) _).alloc (by simp) _
  have hp := part_any A len cap l d ((W.alloc (.cells zeroV.toArray 27)).alloc (.cells #[.int .i64 0, .int .i64 0] 29)) ((hx.stay hb).more hb.size) h2 d1 d2 (hT.stay hb (hT.elim fun _ h => h.inside))
  have o4 := fresh_one W 27 zeroV.toArray (.cells #[.int .i64 0, .int .i64 0] 29)
  have o5 := fresh_two W 29 #[.int .i64 0, .int .i64 0] (.cells zeroV.toArray 27)
  have zz : ((W.alloc (.cells zeroV.toArray 27)).alloc (.cells #[.int .i64 0, .int .i64 0] 29)).heap.size = W.heap.size + 2 := by simp
  unfold PartEnd at hp
  generalize (parseP l d).2.1 = kk at hp ⊢
  generalize (parseP l d).2.2 = pp at hp ⊢
  generalize treeP l d = tr at hp ⊢
  have HP := Lib.hid hp
  have HB := Lib.hid hb
  have HO4 := Lib.hid o4
  have HO5 := Lib.hid o5
  have HZ := Lib.hid zz
  clear hp hb hx hT o4 o5 zz
  unfold zeroV at HP HB HO4 HO5 HZ
  go_enter Tryd.func6, Tryd.ntmps6
  go_upto_region 2 with (go_at_call 8; refine HP.out.mono ?_; rintro e w3 ⟨yk, yf, yt, yx, yA, yn, yc, yB, ym, yd, o, rfl, hv, hb3⟩
                         have HV := Lib.hid hv
                         have HB3 := Lib.hid hb3
                         clear hv hb3)
  change Code.wp _ _ _ _ ((w3.alloc (.cells #[.int .i64 yk, .int .i64 yf, .int .i64 yt, .string ⟨yx.toArray⟩, .slice yA yn yc, .slice yB ym yd] 27)).alloc (.cells #[.int .i64 kk, .int .i64 pp] 29))
  have o4 : Own _ W.heap.size 27 (v6Cells zeroX).toArray := own_two HO4.out HB3.out (.cells #[.int .i64 yk, .int .i64 yf, .int .i64 yt, .string ⟨yx.toArray⟩, .slice yA yn yc, .slice yB ym yd] 27) (.cells #[.int .i64 kk, .int .i64 pp] 29)
  have o5 := own_two HO5.out HB3.out (.cells #[.int .i64 yk, .int .i64 yf, .int .i64 yt, .string ⟨yx.toArray⟩, .slice yA yn yc, .slice yB ym yd] 27) (.cells #[.int .i64 kk, .int .i64 pp] 29)
  have o6 := fresh_one w3 27 #[.int .i64 yk, .int .i64 yf, .int .i64 yt, .string ⟨yx.toArray⟩, .slice yA yn yc, .slice yB ym yd] (.cells #[.int .i64 kk, .int .i64 pp] 29)
  have o8 := fresh_two w3 29 #[.int .i64 kk, .int .i64 pp] (.cells #[.int .i64 yk, .int .i64 yf, .int .i64 yt, .string ⟨yx.toArray⟩, .slice yA yn yc, .slice yB ym yd] 27)
  have b4 : Below w3.heap.size w3 ((w3.alloc (.cells #[.int .i64 yk, .int .i64 yf, .int .i64 yt, .string ⟨yx.toArray⟩, .slice yA yn yc, .slice yB ym yd] 27)).alloc (.cells #[.int .i64 kk, .int .i64 pp] 29)) := ((Below.refl _ _).alloc (Nat.le_refl _) _).alloc (by simp) _
  have hsz : W.heap.size + 2 ≤ w3.heap.size := by have := HB3.out.size; have := HZ.out; omega
  generalize (w3.alloc (.cells #[.int .i64 yk, .int .i64 yf, .int .i64 yt, .string ⟨yx.toArray⟩, .slice yA yn yc, .slice yB ym yd] 27)).alloc (.cells #[.int .i64 kk, .int .i64 pp] 29) = wP at o4 o5 o6 o8 b4 ⊢
  have x0 := o6.at 0
  have x1 := o6.at 1
  have x2 := o6.at 2
  have x3 := o6.at 3
  have x4 := o6.at 4
  have x5 := o6.at 5
  simp at x0 x1 x2 x3 x4 x5
  have r0 := o8.at 0
  have r1 := o8.at 1
  simp at r0 r1
  have y0 := o4.at 0
  have y1 := o4.at 1
  have y2 := o4.at 2
  have y3 := o4.at 3
  have y4 := o4.at 4
  have y5 := o4.at 5
  simp [v6Cells, zeroX] at y0 y1 y2 y3 y4 y5
  have f0 := o4.free 0
  have f1 := o4.free 1
  have f2 := o4.free 2
  have f3 := o4.free 3
  have f4 := o4.free 4
  have f5 := o4.free 5
  have s0 := o5.at 0
  have s1 := o5.at 1
  simp at s0 s1
  have g0 := o5.free 0
  have g1 := o5.free 1
  -- the end, whatever is stored
  have END := Lib.hid (fun (x : V6) => show Own (putV (put6 wP W.heap.size x) (W.heap.size + 1) kk pp) W.heap.size 27 (v6Cells x).toArray ∧ Own (putV (put6 wP W.heap.size x) (W.heap.size + 1) kk pp) (W.heap.size + 1) 29 #[.int .i64 kk, .int .i64 pp] ∧ Touch (fun q => q = W.heap.size ∨ q = W.heap.size + 1) wP (putV (put6 wP W.heap.size x) (W.heap.size + 1) kk pp) from by
    have t1 := put6_touch wP W.heap.size x
    have t2 := putV_touch (put6 wP W.heap.size x) (W.heap.size + 1) kk pp
    exact ⟨t2.own (put6_own' o4 x) (fun e => by have e : W.heap.size = W.heap.size + 1 := e; omega), putV_own (t1.own o5 (fun e => by have e : W.heap.size + 1 = W.heap.size := e; omega)) kk pp, (t1.mono (G := fun q => q = W.heap.size ∨ q = W.heap.size + 1) (fun q _ e => .inl e)).trans (t2.mono (G := fun q => q = W.heap.size ∨ q = W.heap.size + 1) (fun q _ e => .inr e)) (fun _ _ h => h)⟩)
  have FIN := Lib.hid (fun (x : V6) (w9 : World) (t : Touch (fun q => q = W.heap.size ∨ q = W.heap.size + 1) wP w9) (hv : kk = 1 → x = ⟨yk, yf, yt, yx, yA, yn, yc, yB, ym, yd⟩) => show (kk = 1 → VIs w9 tr x) ∧ Below W.heap.size W w9 from by
    have hzz := HZ.out
    have hb4s := b4.size
    have hB := (HB.out.trans (HB3.out.mono HB.out.size)).trans (b4.mono (by omega))
    refine ⟨fun hk => ?_, hB.trans (t.below (fun q _ hq => by rcases hq with e | e <;> omega) (by omega))⟩
    rw [hv hk]
    exact HV.out hk w9 (Nat.le_trans hb4s t.size) (fun q hq hql => (t.block q (by omega) (fun e => by rcases e with e | e <;> omega)).trans (b4.block q hql)))
  have n1 : ¬ w3.heap.size = W.heap.size := by omega
  have n2 : ¬ w3.heap.size = W.heap.size + 1 := by omega
  have n3 : ¬ w3.heap.size + 1 = W.heap.size := by omega
  have n4 : ¬ w3.heap.size + 1 = W.heap.size + 1 := by omega
  have n5 : ¬ W.heap.size = w3.heap.size := by omega
  have n6 : ¬ W.heap.size + 1 = w3.heap.size := by omega
  have n7 : ¬ W.heap.size = w3.heap.size + 1 := by omega
  have n8 : ¬ W.heap.size + 1 = w3.heap.size + 1 := by omega
  clear o4 o5 o6 o8 HP HB HO4 HO5 HZ HB3 HV b4 hsz
  by_cases hk : kk = 1
  · subst hk
    go_upto_region 4 with fail
    go_region
    rename_i hK
    obtain ⟨e6, e8, et⟩ := END.out ⟨yk, yf, yt, yx, yA, yn, yc, yB, ym, yd⟩
    have h9 := FIN.out ⟨yk, yf, yt, yx, yA, yn, yc, yB, ym, yd⟩ _ (Touch.drew1 et) (fun _ => rfl)
    have Z6 := own_drew e6
    have Z8 := own_drew e8
    unfold putV put6 at Z6 Z8 h9
    dsimp only at Z6 Z8 h9
    have HZ6 := Lib.hid Z6
    have HZ8 := Lib.hid Z8
    have H9 := Lib.hid h9
    clear x0 x1 x2 x3 x4 x5 y0 y1 y2 y3 y4 y5 f0 f1 f2 f3 f4 f5 g0 g1 r0 r1 s0 s1 n1 n2 n3 n4 n5 n6 n7 n8 e6 e8 et h9 Z6 Z8 END FIN
    refine hK _ _ ?_
    go_wp2
    refine bodyPost_ret (results_cc rfl _ _ W.heap.size _ _ (0, 0) _ (W.heap.size + 1) _ _ (0, 0) _ rfl HZ6.out Tryd.underlying27 rfl val_size rfl HZ8.out Tryd.underlying29 rfl verd_size) rfl ?_
    exact ⟨⟨yk, yf, yt, yx, yA, yn, yc, yB, ym, yd⟩, rfl, fun _ => H9.out.1 trivial, H9.out.2⟩
  · have hkb : (kk != 1) = true := bne_iff_ne.2 hk
    go_upto_region 3 with fail
    go_region
    rename_i hK
    obtain ⟨e6, e8, et⟩ := END.out zeroX
    have h9 := FIN.out zeroX _ (Touch.drew1 et) (fun h => absurd h hk)
    have Z6 := own_drew e6
    have Z8 := own_drew e8
    unfold putV put6 at Z6 Z8 h9
    try dsimp only [zeroX] at Z6
    try dsimp only [zeroX] at Z8
    try dsimp only [zeroX] at h9
    have HZ6 := Lib.hid Z6
    have HZ8 := Lib.hid Z8
    have H9 := Lib.hid h9
    clear x0 x1 x2 x3 x4 x5 y0 y1 y2 y3 y4 y5 f0 f1 f2 f3 f4 f5 g0 g1 r0 r1 s0 s1 n1 n2 n3 n4 n5 n6 n7 n8 e6 e8 et h9 Z6 Z8 END FIN
    refine hK _ _ ?_
    go_wp2
    refine bodyPost_ret (results_cc rfl _ _ W.heap.size _ _ (0, 0) _ (W.heap.size + 1) _ _ (0, 0) _ rfl HZ6.out Tryd.underlying27 rfl val_size rfl HZ8.out Tryd.underlying29 rfl verd_size) rfl ?_
    exact ⟨zeroX, rfl, H9.out.1, H9.out.2⟩

end Go.Proofs.YthpkcapooeedeaaDoor
