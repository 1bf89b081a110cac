/- A round of NestPairs' loop over a token's events: a value opens. -/
import Derived.Test.YtpjdmhfineeimaaDoorJ16
namespace Go.Proofs.YtpjdmhfineeimaaDoor
open Go.RowKit
set_option linter.unusedVariables false

theorem most_is (d : Int) (h0 : 0 ≤ d) : ((newN d).most : Int) = max d 1 := by
  show (((if d < 1 then 1 else d.toNat : Nat)) : Int) = max d 1
  split <;> omega

/-- Where NestPairs' loop over tokens is. -/
def RelNP (C : NestC) (l : List UInt8) (ts : List Tok) (sE : Nat × Option Nat) (pE : Option (Int × Nat)) (W w2 : World) (bt b0 B most : Nat) (vO vC vi : Value) (wr : World) : Prop :=
  ∃ k s p n F, vi = .int .i64 (k : Nat) ∧ AtTok C l ts sE pE W w2 wr bt b0 B most vO vC k s p n F

/-- What holds while a token's events are gone through. -/
structure MidTok (C : NestC) (W w2 wr : World) (bt b0 B : Nat) (vO vC : Value) (E : List Evt) (cn : List Nat) (n' : Nst) (F : Nat → Prop) : Prop where
  st : C.St wr b0 F n'
  bnd : ∀ j, F j → W.heap.size ≤ j ∧ j < wr.heap.size ∧ j ≠ bt
  rowO : GRow evK wr B vO E
  rowC : GRow ctK wr B vC cn
  offO : ∀ g, vO.ownBlock = some g → ¬ F g ∧ vC.ownBlock ≠ some g
  offC : ∀ g, vC.ownBlock = some g → ¬ F g
  bel : Below W.heap.size W wr
  toks : wr.heap[bt]? = w2.heap[bt]?
/-- Where the loop over a token's events is. -/
def RelEv (C : NestC) (W w2 : World) (bt b0 B : Nat) (A5 : Option Addr) (es : List Evt) (n n' : Nst) (p p' : Option (Int × Nat)) (F : Nat → Prop) (vO vC vj : Value) (wr : World) : Prop :=
  ∃ j : Nat, vj = .int .i64 j ∧ ((j = 0 ∧ 0 < es.length ∧ MidTok C W w2 wr bt b0 B vO vC (evs n p) (cts n p) n' F ∧ RdG evK wr A5 es.length es) ∨ (j = es.length ∧ MidTok C W w2 wr bt b0 B vO vC (evs n' p') (cts n' p') n' F))

/-- Behind Take. -/
theorem mid_start {C : NestC} {l : List UInt8} {ts : List Tok} {sE : Nat × Option Nat} {pE : Option (Int × Nat)} {W w2 wr w5 : World} {bt b0 B most : Nat} {vO vC : Value} {k : Nat} {s : Nat × Option Nat} {p : Option (Int × Nat)} {n n' : Nst} {F : Nat → Prop} {ob : Obj}
    (h : AtTok C l ts sE pE W w2 wr bt b0 B most vO vC k s p n F) (hlt : bt < wr.heap.size) (ht : Touch F (wr.alloc ob) w5) (hs : C.St w5 b0 (fun j => F j ∨ (wr.alloc ob).heap.size ≤ j) n') (hW : W.heap.size ≤ wr.heap.size) :
    MidTok C W w2 w5 bt b0 B vO vC (evs n p) (cts n p) n' (fun j => (F j ∨ (wr.alloc ob).heap.size ≤ j) ∧ j < w5.heap.size) := by
  have e1 : (wr.alloc ob).heap.size = wr.heap.size + 1 := by simp
  have hz := ht.size
  have hb1 := below1 wr ob
  have ft : ∀ j, j < wr.heap.size → ¬ F j → w5.heap[j]? = wr.heap[j]? := fun j hj hn => (ht.block j (by omega) hn).trans (hb1.block j hj)
  refine ⟨C.mono hs (fun j hj hh => ⟨hh, hj⟩), ?_, h.rowO.stay (fun g hg => ft g (h.rowO.low hg).2 (h.offO g hg).1), h.rowC.stay (fun g hg => ft g (h.rowC.low hg).2 (h.offC g hg)), ?_, ?_, ?_, (ft bt hlt (fun hh => (h.bnd bt hh).2.2 rfl)).trans h.toks⟩
  · rintro j ⟨hh, hj⟩
    rcases hh with hh | hh
    · have := h.bnd j hh; exact ⟨this.1, hj, this.2.2⟩
    · exact ⟨by omega, hj, by omega⟩
  · intro g hg
    have := (h.rowO.low hg).2
    refine ⟨fun hh => ?_, (h.offO g hg).2⟩
    rcases hh.1 with hh | hh
    · exact (h.offO g hg).1 hh
    · omega
  · intro g hg hh
    have := (h.rowC.low hg).2
    rcases hh.1 with hh | hh
    · exact h.offC g hg hh
    · omega
  · exact (h.bel.alloc hW _).trans (ht.below (fun j _ hj => (h.bnd j hj).1) (by omega))

theorem MidTok.on {C : NestC} {W w2 w w' : World} {bt b0 B : Nat} {vO vC : Value} {E : List Evt} {cn : List Nat} {n' : Nst} {F : Nat → Prop} (h : MidTok C W w2 w bt b0 B vO vC E cn n' F) (hb : Below w.heap.size w w') (hbt : bt < w.heap.size) : MidTok C W w2 w' bt b0 B vO vC E cn n' F :=
  ⟨C.stay h.st (Touch.of_new (F := fun _ => False) hb) (fun _ _ _ hh => hh), fun j hj => by have := h.bnd j hj; have := hb.size; omega, h.rowO.stay (fun g hg => hb.block g (h.rowO.low hg).2), h.rowC.stay (fun g hg => hb.block g (h.rowC.low hg).2), h.offO, h.offC,
    h.bel.trans (hb.mono h.bel.size), (hb.block bt hbt).trans h.toks⟩

theorem MidTok.over {C : NestC} {W w2 w w' : World} {bt b0 B : Nat} {vO vC vO' vC' : Value} {E E' : List Evt} {cn cn' : List Nat} {n' : Nst} {F G : Nat → Prop} (h : MidTok C W w2 w bt b0 B vO vC E cn n' F) (ht : Touch G w w') (hG : ∀ j, j < w.heap.size → G j → B ≤ j ∧ ¬ F j) (hbt : bt < w.heap.size) (hB : bt < B) (hW : W.heap.size ≤ B)
    (rO : GRow evK w' B vO' E') (rC : GRow ctK w' B vC' cn') (oO : ∀ g, vO'.ownBlock = some g → ¬ F g ∧ vC'.ownBlock ≠ some g) (oC : ∀ g, vC'.ownBlock = some g → ¬ F g) : MidTok C W w2 w' bt b0 B vO' vC' E' cn' n' F :=
  ⟨C.stay h.st ht (fun j hj hf hg => (hG j hj hg).2 hf), fun j hj => by have := h.bnd j hj; have := ht.size; omega, rO, rC, oO, oC,
    h.bel.trans (ht.below (fun j hj hg => by have := (hG j hj hg).1; omega) h.bel.size), (ht.block bt hbt (fun hg => by have := (hG bt hbt hg).1; omega)).trans h.toks⟩

/-- The last one of what is open, and its count, are cut off. -/
theorem MidTok.cut {C : NestC} {W w2 w : World} {bt b0 B m c m' c' : Nat} {A A' : Option Addr} {E E0 : List Evt} {cn cn0 : List Nat} {q : Evt} {x : Nat} {n' : Nst} {F : Nat → Prop}
    (h : MidTok C W w2 w bt b0 B (.slice A m c) (.slice A' m' c') E cn n' F) (hE : E = E0 ++ [q]) (hC : cn = cn0 ++ [x]) (r : Nat) : MidTok C W w2 (w.drewN r) bt b0 B (.slice A E0.length c) (.slice A' cn0.length c') E0 cn0 n' F := by
  have o1 : (Value.slice A E0.length c).ownBlock = (Value.slice A m c).ownBlock := by cases A <;> rfl
  have o2 : (Value.slice A' cn0.length c').ownBlock = (Value.slice A' m' c').ownBlock := by cases A' <;> rfl
  have r1 := h.rowO.cut (k := E0.length) (by rw [hE]; simp)
  have r2 := h.rowC.cut (k := cn0.length) (by rw [hC]; simp)
  rw [hE, List.take_left] at r1
  rw [hC, List.take_left] at r2
  exact ⟨C.stay h.st ((Touch.refl (fun _ => False) w).drewN r) (fun _ _ _ hh => hh), h.bnd, r1.stay (fun _ _ => rfl), r2.stay (fun _ _ => rfl), fun g hg => by rw [o2]; exact h.offO g (o1 ▸ hg), fun g hg => h.offC g (o2 ▸ hg), below_drewN h.bel r, h.toks⟩

/-- Where the loop that counts is. -/
def RelDp (w0 wr : World) (E : List Evt) (vd vi : Value) : Prop :=
  ∃ i : Nat, i ≤ E.length ∧ vi = .int .i64 i ∧ vd = .int .i64 ((((E.take i).filter Evt.holds).length : Nat) : Int) ∧ Below w0.heap.size w0 wr

theorem deep_step (E : List Evt) (i : Nat) (e : Evt) (h : E[i]? = some e) : ((E.take (i + 1)).filter Evt.holds).length = ((E.take i).filter Evt.holds).length + (if e.holds then 1 else 0) := by
  obtain ⟨hi, rfl⟩ := List.getElem?_eq_some_iff.1 h
  rw [List.take_succ_eq_append_getElem hi, List.filter_append, List.length_append]
  cases hh : E[i].holds <;> simp [hh]

/-- The loops of a code, the outer ones first. -/
def loopsOf : Code → List Code
  | .loop c => c :: loopsOf c
  | .seq a b => loopsOf a ++ loopsOf b
  | .block _ c => loopsOf c
  | .scope c => loopsOf c
  | .cond _ a b => loopsOf a ++ loopsOf b
  | _ => []
/-- The body of NestPairs' loop over a token's events. -/
noncomputable def bodyEv : Code := ((Tryd.f3.body.map loopsOf).getD []).getD 1 .skip

set_option maxRecDepth 1000000 in
/-- go_loopw's own relation at the loop over a token's events. -/
def EvI (C : NestC) (W w2 : World) (bt b0 B : Nat) (A5 : Option Addr) (es : List Evt) (n n' : Nst) (p p' : Option (Int × Nat)) (F : Nat → Prop) (s0 s1 s2 s3 s5 s6 s7 s10 s11 s12 s13 s14 s16 s17 s18 s19 s20 s21 s22 s23 s24 s25 s26 s27 s28 s29 s30 s31 s32 s33 s34 s35 s36 s37 s38 s39 s40 s41 s42 s43 s44 s45 s46 s47 s48 s49 s50 s51 s52 s190 s191 s192 s193 s194 s195 s196 s197 s198 s199 s200 s201 s202 s203 s204 s205 s206 s207 s208 s209 s210 s211 s212 s213 s214 s215 s216 s217 s218 s219 s220 s221 s222 s223 s224 s225 s226 s227 s228 s229 s230 s53 s54 : Value) (a' : Act) (w' : World) : Prop :=
  ∃ u4 : Value, ∃ u8 : Value, ∃ u9 : Value, ∃ u15 : Value, ∃ u55 : Value, ∃ u56 : Value, ∃ u57 : Value, ∃ u58 : Value, ∃ u59 : Value, ∃ u60 : Value, ∃ u61 : Value, ∃ u62 : Value, ∃ u63 : Value, ∃ u64 : Value, ∃ u65 : Value, ∃ u66 : Value, ∃ u67 : Value, ∃ u68 : Value, ∃ u69 : Value, ∃ u70 : Value, ∃ u71 : Value, ∃ u72 : Value, ∃ u73 : Value, ∃ u74 : Value, ∃ u75 : Value, ∃ u76 : Value, ∃ u77 : Value, ∃ u78 : Value, ∃ u79 : Value, ∃ u80 : Value, ∃ u81 : Value, ∃ u82 : Value, ∃ u83 : Value, ∃ u84 : Value, ∃ u85 : Value, ∃ u86 : Value, ∃ u87 : Value, ∃ u88 : Value, ∃ u89 : Value, ∃ u90 : Value, ∃ u91 : Value, ∃ u92 : Value, ∃ u93 : Value, ∃ u94 : Value, ∃ u95 : Value, ∃ u96 : Value, ∃ u97 : Value, ∃ u98 : Value, ∃ u99 : Value, ∃ u100 : Value, ∃ u101 : Value, ∃ u102 : Value, ∃ u103 : Value, ∃ u104 : Value, ∃ u105 : Value, ∃ u106 : Value, ∃ u107 : Value, ∃ u108 : Value, ∃ u109 : Value, ∃ u110 : Value, ∃ u111 : Value, ∃ u112 : Value, ∃ u113 : Value, ∃ u114 : Value, ∃ u115 : Value, ∃ u116 : Value, ∃ u117 : Value, ∃ u118 : Value, ∃ u119 : Value, ∃ u120 : Value, ∃ u121 : Value, ∃ u122 : Value, ∃ u123 : Value, ∃ u124 : Value, ∃ u125 : Value, ∃ u126 : Value, ∃ u127 : Value, ∃ u128 : Value, ∃ u129 : Value, ∃ u130 : Value, ∃ u131 : Value, ∃ u132 : Value, ∃ u133 : Value, ∃ u134 : Value, ∃ u135 : Value, ∃ u136 : Value, ∃ u137 : Value, ∃ u138 : Value, ∃ u139 : Value, ∃ u140 : Value, ∃ u141 : Value, ∃ u142 : Value, ∃ u143 : Value, ∃ u144 : Value, ∃ u145 : Value, ∃ u146 : Value, ∃ u147 : Value, ∃ u148 : Value, ∃ u149 : Value, ∃ u150 : Value, ∃ u151 : Value, ∃ u152 : Value, ∃ u153 : Value, ∃ u154 : Value, ∃ u155 : Value, ∃ u156 : Value, ∃ u157 : Value, ∃ u158 : Value, ∃ u159 : Value, ∃ u160 : Value, ∃ u161 : Value, ∃ u162 : Value, ∃ u163 : Value, ∃ u164 : Value, ∃ u165 : Value, ∃ u166 : Value, ∃ u167 : Value, ∃ u168 : Value, ∃ u169 : Value, ∃ u170 : Value, ∃ u171 : Value, ∃ u172 : Value, ∃ u173 : Value, ∃ u174 : Value, ∃ u175 : Value, ∃ u176 : Value, ∃ u177 : Value, ∃ u178 : Value, ∃ u179 : Value, ∃ u180 : Value, ∃ u181 : Value, ∃ u182 : Value, ∃ u183 : Value, ∃ u184 : Value, ∃ u185 : Value, ∃ u186 : Value, ∃ u187 : Value, ∃ u188 : Value, ∃ u189 : Value, RelEv C W w2 bt b0 B A5 es n n' p p' F u8 u9 u55 w' ∧ a' = ⟨#[s0, s1, s2, s3, u4, s5, s6, s7, u8, u9, s10, s11, s12, s13, s14, u15, s16, s17, s18, s19, s20, s21, s22, s23, s24, s25, s26, s27, s28, s29, s30, s31, s32, s33, s34, s35, s36, s37, s38, s39, s40, s41, s42, s43, s44, s45, s46, s47, s48, s49, s50, s51, s52, s53, s54, u55, u56, u57, u58, u59, u60, u61, u62, u63, u64, u65, u66, u67, u68, u69, u70, u71, u72, u73, u74, u75, u76, u77, u78, u79, u80, u81, u82, u83, u84, u85, u86, u87, u88, u89, u90, u91, u92, u93, u94, u95, u96, u97, u98, u99, u100, u101, u102, u103, u104, u105, u106, u107, u108, u109, u110, u111, u112, u113, u114, u115, u116, u117, u118, u119, u120, u121, u122, u123, u124, u125, u126, u127, u128, u129, u130, u131, u132, u133, u134, u135, u136, u137, u138, u139, u140, u141, u142, u143, u144, u145, u146, u147, u148, u149, u150, u151, u152, u153, u154, u155, u156, u157, u158, u159, u160, u161, u162, u163, u164, u165, u166, u167, u168, u169, u170, u171, u172, u173, u174, u175, u176, u177, u178, u179, u180, u181, u182, u183, u184, u185, u186, u187, u188, u189, s190, s191, s192, s193, s194, s195, s196, s197, s198, s199, s200, s201, s202, s203, s204, s205, s206, s207, s208, s209, s210, s211, s212, s213, s214, s215, s216, s217, s218, s219, s220, s221, s222, s223, s224, s225, s226, s227, s228, s229, s230], []⟩

set_option maxRecDepth 1000000 in
set_option maxHeartbeats 8000000 in
theorem ev_open (C : NestC) (W w4 wr : World) (bt b0 B : Nat) (A8' : Option Addr) (c8' g9 c9' g5 o5 c5 : Nat) (n n' : Nst) (p p' : Option (Int × Nat)) (F5 : Nat → Prop) (ev : Int) (ef et : Nat) (snm : Bool) (sna : List UInt8) (six : Nat) (etx : List UInt8)
    (HMM0 : MidTok C W w4 wr bt b0 B (.slice A8' (evs n p).length c8') (.slice (some ⟨g9, 0, none⟩) (cts n p).length c9') (evs n p) (cts n p) n' F5) (hEL : (evs n p).length ≤ 1000001)
    (hbtw : bt < wr.heap.size) (hbB : bt < B) (hWB : W.heap.size ≤ B) (hBw : B ≤ wr.heap.size) (hg5 : g5 < wr.heap.size) (hg9b : B ≤ g9) (hg9 : g9 < wr.heap.size)
    (x0 : wr.cell? ⟨g5, o5, none⟩ = some (.int .i64 1)) (x1 : wr.cell? ⟨g5, o5 + 1, none⟩ = some (.int .i64 ev)) (x2 : wr.cell? ⟨g5, o5 + 2, none⟩ = some (.int .i64 ef)) (x3 : wr.cell? ⟨g5, o5 + 3, none⟩ = some (.int .i64 et))
    (x4 : wr.cell? ⟨g5, o5 + 4, none⟩ = some (.bool snm)) (x5 : wr.cell? ⟨g5, o5 + 5, none⟩ = some (.string ⟨sna.toArray⟩)) (x6 : wr.cell? ⟨g5, o5 + 6, none⟩ = some (.int .i64 six)) (x7 : wr.cell? ⟨g5, o5 + 7, none⟩ = some (.string ⟨etx.toArray⟩))
    (hE : evs n' p' = evs n p ++ [(⟨1, ev, ef, et, ⟨snm, sna, six⟩, etx⟩ : Evt)]) (cs : List Nat) (c : Nat) (hC1 : cts n p = cs ++ [c]) (hC2 : cts n' p' = cs ++ [c + 1] ++ [0]) (hlast : ∀ o, (evs n p).getLast? = some o → (o.value = 4 → snm = false ∧ six = c) ∧ (o.value = 5 → snm = true)) (hc9 : c ≤ 1000001)
    {s0 s1 s2 s3 s5 s6 s7 s10 s11 s12 s13 s14 s16 s17 s18 s19 s20 s21 s22 s23 s24 s25 s26 s27 s28 s29 s30 s31 s32 s33 s34 s35 s36 s37 s38 s39 s40 s41 s42 s43 s44 s45 s46 s47 s48 s49 s50 s51 s52 s190 s191 s192 s193 s194 s195 s196 s197 s198 s199 s200 s201 s202 s203 s204 s205 s206 s207 s208 s209 s210 s211 s212 s213 s214 s215 s216 s217 s218 s219 s220 s221 s222 s223 s224 s225 s226 s227 s228 s229 s230 : Value} {u4 u15 u56 u57 u58 u59 u60 u61 u62 u63 u64 u65 u66 u67 u68 u69 u70 u71 u72 u73 u74 u75 u76 u77 u78 u79 u80 u81 u82 u83 u84 u85 u86 u87 u88 u89 u90 u91 u92 u93 u94 u95 u96 u97 u98 u99 u100 u101 u102 u103 u104 u105 u106 u107 u108 u109 u110 u111 u112 u113 u114 u115 u116 u117 u118 u119 u120 u121 u122 u123 u124 u125 u126 u127 u128 u129 u130 u131 u132 u133 u134 u135 u136 u137 u138 u139 u140 u141 u142 u143 u144 u145 u146 u147 u148 u149 u150 u151 u152 u153 u154 u155 u156 u157 u158 u159 u160 u161 u162 u163 u164 u165 u166 u167 u168 u169 u170 u171 u172 u173 u174 u175 u176 u177 u178 u179 u180 u181 u182 u183 u184 u185 u186 u187 u188 u189 : Value} {R : Act → World → Prop} {Q0 : Exit → Act → World → Prop}
    (hR : ∀ a' w', EvI C W w4 bt b0 B (some ⟨g5, o5, none⟩) [(⟨1, ev, ef, et, ⟨snm, sna, six⟩, etx⟩ : Evt)] n n' p p' F5 s0 s1 s2 s3 s5 s6 s7 s10 s11 s12 s13 s14 s16 s17 s18 s19 s20 s21 s22 s23 s24 s25 s26 s27 s28 s29 s30 s31 s32 s33 s34 s35 s36 s37 s38 s39 s40 s41 s42 s43 s44 s45 s46 s47 s48 s49 s50 s51 s52 s190 s191 s192 s193 s194 s195 s196 s197 s198 s199 s200 s201 s202 s203 s204 s205 s206 s207 s208 s209 s210 s211 s212 s213 s214 s215 s216 s217 s218 s219 s220 s221 s222 s223 s224 s225 s226 s227 s228 s229 s230 (.slice (some ⟨g5, o5, none⟩) [(⟨1, ev, ef, et, ⟨snm, sna, six⟩, etx⟩ : Evt)].length c5) (.int .i64 (([(⟨1, ev, ef, et, ⟨snm, sna, six⟩, etx⟩ : Evt)].length : Nat) : Int)) a' w' → a'.tmps.getD 55 undef = .int .i64 1 → R a' w') :
    Code.wp Tryd.prog bodyEv (Exit.then R Q0) ⟨#[s0, s1, s2, s3, u4, s5, s6, s7, (.slice A8' (evs n p).length c8'), (.slice (some ⟨g9, 0, none⟩) (cts n p).length c9'), s10, s11, s12, s13, s14, u15, s16, s17, s18, s19, s20, s21, s22, s23, s24, s25, s26, s27, s28, s29, s30, s31, s32, s33, s34, s35, s36, s37, s38, s39, s40, s41, s42, s43, s44, s45, s46, s47, s48, s49, s50, s51, s52, (.slice (some ⟨g5, o5, none⟩) [(⟨1, ev, ef, et, ⟨snm, sna, six⟩, etx⟩ : Evt)].length c5), (.int .i64 (([(⟨1, ev, ef, et, ⟨snm, sna, six⟩, etx⟩ : Evt)].length : Nat) : Int)), (.int .i64 0), u56, u57, u58, u59, u60, u61, u62, u63, u64, u65, u66, u67, u68, u69, u70, u71, u72, u73, u74, u75, u76, u77, u78, u79, u80, u81, u82, u83, u84, u85, u86, u87, u88, u89, u90, u91, u92, u93, u94, u95, u96, u97, u98, u99, u100, u101, u102, u103, u104, u105, u106, u107, u108, u109, u110, u111, u112, u113, u114, u115, u116, u117, u118, u119, u120, u121, u122, u123, u124, u125, u126, u127, u128, u129, u130, u131, u132, u133, u134, u135, u136, u137, u138, u139, u140, u141, u142, u143, u144, u145, u146, u147, u148, u149, u150, u151, u152, u153, u154, u155, u156, u157, u158, u159, u160, u161, u162, u163, u164, u165, u166, u167, u168, u169, u170, u171, u172, u173, u174, u175, u176, u177, u178, u179, u180, u181, u182, u183, u184, u185, u186, u187, u188, u189, s190, s191, s192, s193, s194, s195, s196, s197, s198, s199, s200, s201, s202, s203, s204, s205, s206, s207, s208, s209, s210, s211, s212, s213, s214, s215, s216, s217, s218, s219, s220, s221, s222, s223, s224, s225, s226, s227, s228, s229, s230], []⟩ wr := by
  have HMM := Lib.hid HMM0
  have HEL := Lib.hid hEL
  have hcl := cts_len n p
  have HRR := Lib.hid hR
  clear hR HMM0
  conv => arg 2; whnf
  have hcs : (cts n p).length = cs.length + 1 := by rw [hC1]; simp
  have hcc : wr.cell? ⟨g9, cs.length, none⟩ = some (.int .i64 c) := by
    have := (GRow.rd HMM.out.rowC).at (b := g9) (o := 0) rfl (i := cs.length) (a := c) (by rw [hC1]; simp) (j := 0) (u := .int .i64 c) rfl
    simpa [ctK] using this
  have hfc := HMM.out.rowC.free cs.length
  rw [hcs]
  rw [hcs] at hcl
  have hmE9 := HEL.out
  have hcs9 : cs.length ≤ 1000001 := by omega
  have HCLE := Lib.hid hcl
  obtain ⟨mC, hmC⟩ : ∃ mC, mC = cs.length + 1 := ⟨_, rfl⟩
  rw [← hmC]
  have hmC1 : (mC : Int) - 1 = cs.length := by omega
  have hmC2 : (0 : Int) ≤ cs.length := by omega
  have hmC3 : (cs.length : Int) < mC := by omega
  have hmC9 : mC ≤ 1000002 := by omega
  replace hmC := Lib.hid hmC
  clear hcl hcs
  generalize hmE : (evs n p).length = mE at *
  replace hmE := Lib.hid hmE
  go_upto_region 21 with fail
  go_cut [112] from 59 to 189 (fun x wx => x = .bool false ∧ MidTok C W w4 wx bt b0 B (.slice A8' mE c8') (.slice (some ⟨g9, 0, none⟩) mC c9') (evs n p) (cts n p) n' F5 ∧
    Own wx wr.heap.size 40 #[.int .i64 1, .int .i64 ev, .int .i64 ef, .int .i64 et, .bool snm, .string ⟨sna.toArray⟩, .int .i64 six, .string ⟨etx.toArray⟩] ∧ wx.heap.size = wr.heap.size + 1)
  case first =>
    have hfin : ∀ q, MidTok C W w4 ((wr.alloc (.cells #[.int .i64 1, .int .i64 ev, .int .i64 ef, .int .i64 et, .bool snm, .string ⟨sna.toArray⟩, .int .i64 six, .string ⟨etx.toArray⟩] 40)).drewN q) bt b0 B (.slice A8' mE c8') (.slice (some ⟨g9, 0, none⟩) mC c9') (evs n p) (cts n p) n' F5 := fun q => by
      have := HMM.out.on (below_drewN (below1 wr (.cells #[.int .i64 1, .int .i64 ev, .int .i64 ef, .int .i64 et, .bool snm, .string ⟨sna.toArray⟩, .int .i64 six, .string ⟨etx.toArray⟩] 40)) q) hbtw
      rw [show (cts n p).length = mC by rw [hC1, hmC.out]; simp] at this
      exact this
    have hown := Own.fresh wr 40 #[.int .i64 1, .int .i64 ev, .int .i64 ef, .int .i64 et, .bool snm, .string ⟨sna.toArray⟩, .int .i64 six, .string ⟨etx.toArray⟩]
    have HFI := Lib.hid hfin
    have HOW := Lib.hid hown
    clear hfin hown
    rcases Nat.eq_zero_or_pos mE with hz | hz
    · subst hz
      go_quiet (fail)
      go_wp2
      go_meet
      case rel => exact ⟨rfl, HFI.out _, HOW.out, by simp⟩
    · have hE0 : evs n p ≠ [] := fun hh => by have := hmE.out; rw [hh] at this; simp at this; omega
      obtain ⟨E0, q, hEq⟩ : ∃ E0 q, evs n p = E0 ++ [q] := ⟨(evs n p).dropLast, (evs n p).getLast hE0, (List.dropLast_concat_getLast hE0).symm⟩
      have hmE1 : mE = E0.length + 1 := by rw [← hmE.out, hEq]; simp
      have hlen0 : (0 : Int) ≤ E0.length := by omega
      have hlen1 : (0 : Int) < mE := by omega
      have hlen2 : (mE : Int) - 1 = E0.length := by omega
      have hlen3 : (E0.length : Int) < mE := by omega
      have hlen4 : decide ((0 : Int) < mE) = true := decide_eq_true hlen1
      replace hmE1 := Lib.hid hmE1
      obtain ⟨A8'', c8'', hv, _, _, hA8⟩ := HMM.out.rowO.form
      have hv1 : A8' = A8'' := by injection hv
      clear hv
      subst hv1
      obtain ⟨g8, rfl, hg8b, hg8⟩ := hA8 (by rw [hEq]; simp)
      have hval : wr.cell? ⟨g8, E0.length * 8 + 1, none⟩ = some (.int .i64 q.value) := by
        have := (GRow.rd HMM.out.rowO).at (b := g8) (o := 0) rfl (i := E0.length) (a := q) (by rw [hEq]; simp) (j := 1) (u := .int .i64 q.value) rfl
        simpa [evK] using this
      have hq : (q.value = 4 → snm = false ∧ six = c) ∧ (q.value = 5 → snm = true) := hlast q (by rw [hEq]; simp)
      generalize q.value = qv at *
      by_cases h4 : qv = 4
      · subst h4
        obtain ⟨rfl, rfl⟩ := hq.1 rfl
        clear hq
        go_quiet (fail)
        go_wp2
        go_meet
        case rel => exact ⟨rfl, HFI.out _, HOW.out, by simp⟩
      · have a4 : (qv == 4) = false := beq_eq_false_iff_ne.2 h4
        by_cases h5 : qv = 5
        · subst h5
          obtain rfl := hq.2 rfl
          clear hq
          go_quiet (fail)
          go_wp2
          go_meet
          case rel => exact ⟨rfl, HFI.out _, HOW.out, by simp⟩
        · have a5 : (qv == 5) = false := beq_eq_false_iff_ne.2 h5
          clear hq
          go_quiet (fail)
          go_wp2
          go_meet
          case rel => exact ⟨rfl, HFI.out _, HOW.out, by simp⟩
  case rest =>
    obtain ⟨rfl, M, hOw, hzw⟩ := hcut
    have hcc' : wc.cell? ⟨g9, cs.length, none⟩ = some (.int .i64 c) := by
      have := (GRow.rd M.rowC).at (b := g9) (o := 0) rfl (i := cs.length) (a := c) (by rw [hC1]; simp) (j := 0) (u := .int .i64 c) rfl
      simpa [ctK] using this
    have hfc' := M.rowC.free cs.length
    have y0 := hOw.at 0
    have y1 := hOw.at 1
    have y2 := hOw.at 2
    have y3 := hOw.at 3
    have y4 := hOw.at 4
    have y5 := hOw.at 5
    have y6 := hOw.at 6
    have y7 := hOw.at 7
    simp at y0 y1 y2 y3 y4 y5 y6 y7
    have hputC : GRow ctK (wc.setCell ⟨g9, cs.length, none⟩ (.int .i64 ((c : Int) + 1))) B (.slice (some ⟨g9, 0, none⟩) mC c9') (cs ++ [c + 1]) := by
      have := M.rowC.put (i := cs.length) (a := c + 1) (u := .int .i64 ((c : Int) + 1)) rfl (by rw [hC1]; simp) (by simp [ctK])
      rw [hC1] at this
      simpa using this
    have hputO : GRow evK (wc.setCell ⟨g9, cs.length, none⟩ (.int .i64 ((c : Int) + 1))) B (.slice A8' mE c8') (evs n p) := M.rowO.stay (fun g hg => Below.heap_setCell wc ⟨g9, cs.length, none⟩ _ g (fun hh => (M.offO g hg).2 (by rw [hh]; rfl)))
    have HPC := Lib.hid hputC
    have HPO := Lib.hid hputO
    have HMC := Lib.hid M
    have hgw : g9 ≠ wr.heap.size := by omega
    have hOw7 : Own (wc.setCell ⟨g9, cs.length, none⟩ (.int .i64 ((c : Int) + 1))) wr.heap.size _ _ := hOw.past (p := ⟨g9, cs.length, none⟩) (fun hh => hgw hh.symm) (.int .i64 ((c : Int) + 1))
    have hT7 : Touch (fun j => j = g9 ∨ (Value.slice A8' mE c8').ownBlock = some j) wc (wc.setCell ⟨g9, cs.length, none⟩ (.int .i64 ((c : Int) + 1))) := (Touch.refl _ _).setCell (p := ⟨g9, cs.length, none⟩) (.inl (.inl rfl)) _
    clear hputC hputO M hOw hcc hfc x0 x1 x2 x3 x4 x5 x6 x7
    go_upto_region 24 with fail
    clear hcc' hfc' y0 y1 y2 y3 y4 y5 y6 y7
    generalize wc.setCell ⟨g9, cs.length, none⟩ (.int .i64 ((c : Int) + 1)) = w7 at *
    have y0 := hOw7.at 0
    have y1 := hOw7.at 1
    have y2 := hOw7.at 2
    have y3 := hOw7.at 3
    have y4 := hOw7.at 4
    have y5 := hOw7.at 5
    have y6 := hOw7.at 6
    have y7 := hOw7.at 7
    simp at y0 y1 y2 y3 y4 y5 y6 y7
    have hO8 := HPO.out.stay (w' := w7.alloc (.cells #[.int .i64 1, .int .i64 ev, .int .i64 ef, .int .i64 et, .bool snm, .string ⟨sna.toArray⟩, .int .i64 six, .string ⟨etx.toArray⟩] 40)) (fun g hg => (below1 w7 _).block g (HPO.out.low hg).2)
    have hC8 := HPC.out.stay (w' := w7.alloc (.cells #[.int .i64 1, .int .i64 ev, .int .i64 ef, .int .i64 et, .bool snm, .string ⟨sna.toArray⟩, .int .i64 six, .string ⟨etx.toArray⟩] 40)) (fun g hg => (below1 w7 _).block g (HPC.out.low hg).2)
    have hr8 : RdG evK (w7.alloc (.cells #[.int .i64 1, .int .i64 ev, .int .i64 ef, .int .i64 et, .bool snm, .string ⟨sna.toArray⟩, .int .i64 six, .string ⟨etx.toArray⟩] 40)) (some ⟨w7.heap.size, 0, none⟩) 1 [⟨1, ev, ef, et, ⟨snm, sna, six⟩, etx⟩] := (GRow.made (K := evK) (l := [⟨1, ev, ef, et, ⟨snm, sna, six⟩, etx⟩]) (base := 0) w7 #[.int .i64 1, .int .i64 ev, .int .i64 ef, .int .i64 et, .bool snm, .string ⟨sna.toArray⟩, .int .i64 six, .string ⟨etx.toArray⟩] rfl (show 1 ≤ maxLen by decide) (Nat.zero_le _)).rd
    have hz7 := hT7.size
    have hB7 : B ≤ w7.heap.size := by omega
    have HT7 := Lib.hid hT7
    have hcl7 : (cs ++ [c + 1]).length = mC := by rw [hmC.out]; simp
    have HCL7 := Lib.hid hcl7
    clear hT7 hOw7 hcl7
    go_wp2_with (first
      | (at_builtin
         refine row_append (K := evK) _ rfl (.tmp 121) (.tmp 123) rfl B (.slice A8' mE c8') (evs n p) rfl hO8 (some ⟨w7.heap.size, 0, none⟩) 1 1 [⟨1, ev, ef, et, ⟨snm, sna, six⟩, etx⟩] rfl hr8 (by have := hmE.out; omega) (by simp; omega) ?_
         intro vO' w8 hrO hgO horO
         have hz8 := hgO.size
         have hC9 := (hC8.stay (w' := w8) (fun g hg => hgO.block g (hC8.low hg).2 (fun hh => (HMC.out.offO g hh.symm).2 hg))).stay (w' := w8.alloc (.cells #[.int .i64 0] 3)) (fun g hg => (below1 w8 _).block g (by have := (hC8.low hg).2; omega))
         have hr9 : RdG ctK (w8.alloc (.cells #[.int .i64 0] 3)) (some ⟨w8.heap.size, 0, none⟩) 1 [0] := (GRow.made (K := ctK) (l := [0]) (base := 0) w8 #[.int .i64 0] rfl (show 1 ≤ maxLen by decide) (Nat.zero_le _)).rd
         have HRO := Lib.hid hrO; have HGO := Lib.hid hgO; have HOO := Lib.hid horO
         clear hrO hgO horO)
      | (at_builtin
         refine row_append (K := ctK) _ rfl (.tmp 125) (.tmp 126) rfl B (.slice (some ⟨g9, 0, none⟩) mC c9') (cs ++ [c + 1]) rfl hC9 (some ⟨w8.heap.size, 0, none⟩) 1 1 [0] rfl hr9 (by have := HCL7.out; omega) (by simp at hz8 ⊢; omega) ?_
         intro vC' w10 hrC hgC horC
         have HRC := Lib.hid hrC; have HGC := Lib.hid hgC; have HOC := Lib.hid horC
         clear hrC hgC horC))
    have hz10 := HGC.out.size
    have hz9 : w8.heap.size + 1 ≤ w10.heap.size := by simpa using hz10
    have hz8' : w7.heap.size + 1 ≤ w8.heap.size := by simpa using hz8
    have ht : Touch (fun j => j = g9 ∨ (Value.slice A8' mE c8').ownBlock = some j) wc w10 := (((HT7.out.alloc _).grown HGO.out (fun k e => .inl (.inr e))).alloc _).grown HGC.out (fun k e => .inl (.inl (ownBlock_is e)))
    have hold : ∀ g, (Value.slice A8' mE c8').ownBlock = some g → g < wc.heap.size ∧ B ≤ g ∧ ¬ F5 g ∧ g9 ≠ g := fun g hg => ⟨(HMC.out.rowO.low hg).2, (HMC.out.rowO.low hg).1, (HMC.out.offO g hg).1, fun hh => (HMC.out.offO g hg).2 (by rw [hh]; rfl)⟩
    have hnO : ∀ g, vO'.ownBlock = some g → ((Value.slice A8' mE c8').ownBlock = some g ∨ g = w7.heap.size + 1) ∧ g < w8.heap.size := fun g hg => ⟨by
      rcases HOO.out with hh | hh
      · rw [hh] at hg; exact .inl hg
      · rw [hh] at hg; injection hg with hg; exact .inr (by rw [← hg]; simp), (HRO.out.low hg).2⟩
    have hnC : ∀ g, vC'.ownBlock = some g → g = g9 ∨ g = w8.heap.size + 1 := fun g hg => by
      rcases HOC.out with hh | hh
      · rw [hh] at hg; exact .inl (ownBlock_is hg)
      · rw [hh] at hg; injection hg with hg; exact .inr (by rw [← hg]; simp)
    have hF9 : ∀ g, wc.heap.size ≤ g → ¬ F5 g := fun g hg hh => by have := (HMC.out.bnd g hh).2.1; omega
    have hrow : GRow evK w10 B vO' (evs n p ++ [⟨1, ev, ef, et, ⟨snm, sna, six⟩, etx⟩]) := (HRO.out.stay (w' := w8.alloc (.cells #[.int .i64 0] 3)) (fun g hg => (below1 w8 _).block g (HRO.out.low hg).2)).stay (fun g hg => HGC.out.block g (by have := (hnO g hg).2; simp; omega) (fun hh => by
      have h9 := ownBlock_is hh.symm
      rcases (hnO g hg).1 with h1 | h1
      · exact (hold g h1).2.2.2 h9.symm
      · omega))
    refine HRR.out _ _ ?_ rfl
    unfold EvI
    (repeat apply Exists.intro)
    refine ⟨⟨1, by go_num, .inr ⟨rfl, ?_⟩⟩, rfl⟩
    rw [hE, hC2]
    refine HMC.out.over ht ?_ (by omega) (by omega) (by omega) hrow HRC.out ?_ ?_
    · rintro j hj (rfl | hg)
      · exact ⟨hg9b, HMC.out.offC _ rfl⟩
      · exact ⟨(hold j hg).2.1, (hold j hg).2.2.1⟩
    · intro g hg
      have h1 := hnO g hg
      refine ⟨?_, fun hc => ?_⟩
      · rcases h1.1 with h2 | h2
        · exact (hold g h2).2.2.1
        · exact hF9 g (by omega)
      · have h3 := hnC g hc
        rcases h1.1 with h2 | h2
        · have := hold g h2; omega
        · omega
    · intro g hg
      rcases hnC g hg with rfl | h2
      · exact HMC.out.offC _ rfl
      · exact hF9 g (by omega)

end Go.Proofs.YtpjdmhfineeimaaDoor
