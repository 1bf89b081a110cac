/- A round of NestPairs' loop over a token's events: a value closes. -/
import Derived.Test.YtpjdmhfineeimaaDoorJ17
namespace Go.Proofs.YtpjdmhfineeimaaDoor
open Go.RowKit
set_option linter.unusedVariables false

set_option maxRecDepth 1000000 in
set_option maxHeartbeats 8000000 in
theorem ev_close (C : NestC) (W w4 wr : World) (bt b0 B : Nat) (A8' : Option Addr) (c8' g9 c9' g5 o5 c5 : Nat) (n n' : Nst) (p p' : Option (Int × Nat)) (F5 : Nat → Prop) (ev : Int) (qf et : Nat) (snm : Bool) (sna : List UInt8) (six : Nat) (etx : List UInt8)
    (HMM0 : MidTok C W w4 wr bt b0 B (.slice A8' (evs n p).length c8') (.slice (some ⟨g9, 0, none⟩) (cts n p).length c9') (evs n p) (cts n p) n' F5) (hEL : (evs n p).length ≤ 1000001)
    (hbtw : bt < wr.heap.size) (hbB : bt < B) (hWB : W.heap.size ≤ B) (hBw : B ≤ wr.heap.size) (hg5 : g5 < wr.heap.size) (hg9b : B ≤ g9) (hg9 : g9 < wr.heap.size)
    (x0 : wr.cell? ⟨g5, o5, none⟩ = some (.int .i64 2)) (x1 : wr.cell? ⟨g5, o5 + 1, none⟩ = some (.int .i64 ev)) (x2 : wr.cell? ⟨g5, o5 + 2, none⟩ = some (.int .i64 qf)) (x3 : wr.cell? ⟨g5, o5 + 3, none⟩ = some (.int .i64 et))
    (x4 : wr.cell? ⟨g5, o5 + 4, none⟩ = some (.bool snm)) (x5 : wr.cell? ⟨g5, o5 + 5, none⟩ = some (.string ⟨sna.toArray⟩)) (x6 : wr.cell? ⟨g5, o5 + 6, none⟩ = some (.int .i64 six)) (x7 : wr.cell? ⟨g5, o5 + 7, none⟩ = some (.string ⟨etx.toArray⟩))
    (qk qv : Int) (qt : Nat) (qx : List UInt8) (c : Nat) (hE : evs n p = evs n' p' ++ [⟨qk, qv, qf, qt, ⟨snm, sna, six⟩, qx⟩]) (hC : cts n p = cts n' p' ++ [c]) (hval : ev = qv ∨ ev = 1) (hto : qf < et)
    {s0 s1 s2 s3 s5 s6 s7 s10 s11 s12 s13 s14 s16 s17 s18 s19 s20 s21 s22 s23 s24 s25 s26 s27 s28 s29 s30 s31 s32 s33 s34 s35 s36 s37 s38 s39 s40 s41 s42 s43 s44 s45 s46 s47 s48 s49 s50 s51 s52 s190 s191 s192 s193 s194 s195 s196 s197 s198 s199 s200 s201 s202 s203 s204 s205 s206 s207 s208 s209 s210 s211 s212 s213 s214 s215 s216 s217 s218 s219 s220 s221 s222 s223 s224 s225 s226 s227 s228 s229 s230 : Value} {u4 u15 u56 u57 u58 u59 u60 u61 u62 u63 u64 u65 u66 u67 u68 u69 u70 u71 u72 u73 u74 u75 u76 u77 u78 u79 u80 u81 u82 u83 u84 u85 u86 u87 u88 u89 u90 u91 u92 u93 u94 u95 u96 u97 u98 u99 u100 u101 u102 u103 u104 u105 u106 u107 u108 u109 u110 u111 u112 u113 u114 u115 u116 u117 u118 u119 u120 u121 u122 u123 u124 u125 u126 u127 u128 u129 u130 u131 u132 u133 u134 u135 u136 u137 u138 u139 u140 u141 u142 u143 u144 u145 u146 u147 u148 u149 u150 u151 u152 u153 u154 u155 u156 u157 u158 u159 u160 u161 u162 u163 u164 u165 u166 u167 u168 u169 u170 u171 u172 u173 u174 u175 u176 u177 u178 u179 u180 u181 u182 u183 u184 u185 u186 u187 u188 u189 : Value} {R : Act → World → Prop} {Q0 : Exit → Act → World → Prop}
    (hR : ∀ a' w', EvI C W w4 bt b0 B (some ⟨g5, o5, none⟩) [(⟨2, ev, qf, et, ⟨snm, sna, six⟩, etx⟩ : Evt)] n n' p p' F5 s0 s1 s2 s3 s5 s6 s7 s10 s11 s12 s13 s14 s16 s17 s18 s19 s20 s21 s22 s23 s24 s25 s26 s27 s28 s29 s30 s31 s32 s33 s34 s35 s36 s37 s38 s39 s40 s41 s42 s43 s44 s45 s46 s47 s48 s49 s50 s51 s52 s190 s191 s192 s193 s194 s195 s196 s197 s198 s199 s200 s201 s202 s203 s204 s205 s206 s207 s208 s209 s210 s211 s212 s213 s214 s215 s216 s217 s218 s219 s220 s221 s222 s223 s224 s225 s226 s227 s228 s229 s230 (.slice (some ⟨g5, o5, none⟩) [(⟨2, ev, qf, et, ⟨snm, sna, six⟩, etx⟩ : Evt)].length c5) (.int .i64 (([(⟨2, ev, qf, et, ⟨snm, sna, six⟩, etx⟩ : Evt)].length : Nat) : Int)) a' w' → a'.tmps.getD 55 undef = .int .i64 1 → R a' w') :
    Code.wp Tryd.prog bodyEv (Exit.then R Q0) ⟨#[s0, s1, s2, s3, u4, s5, s6, s7, (.slice A8' (evs n p).length c8'), (.slice (some ⟨g9, 0, none⟩) (cts n p).length c9'), s10, s11, s12, s13, s14, u15, s16, s17, s18, s19, s20, s21, s22, s23, s24, s25, s26, s27, s28, s29, s30, s31, s32, s33, s34, s35, s36, s37, s38, s39, s40, s41, s42, s43, s44, s45, s46, s47, s48, s49, s50, s51, s52, (.slice (some ⟨g5, o5, none⟩) [(⟨2, ev, qf, et, ⟨snm, sna, six⟩, etx⟩ : Evt)].length c5), (.int .i64 (([(⟨2, ev, qf, et, ⟨snm, sna, six⟩, etx⟩ : Evt)].length : Nat) : Int)), (.int .i64 0), u56, u57, u58, u59, u60, u61, u62, u63, u64, u65, u66, u67, u68, u69, u70, u71, u72, u73, u74, u75, u76, u77, u78, u79, u80, u81, u82, u83, u84, u85, u86, u87, u88, u89, u90, u91, u92, u93, u94, u95, u96, u97, u98, u99, u100, u101, u102, u103, u104, u105, u106, u107, u108, u109, u110, u111, u112, u113, u114, u115, u116, u117, u118, u119, u120, u121, u122, u123, u124, u125, u126, u127, u128, u129, u130, u131, u132, u133, u134, u135, u136, u137, u138, u139, u140, u141, u142, u143, u144, u145, u146, u147, u148, u149, u150, u151, u152, u153, u154, u155, u156, u157, u158, u159, u160, u161, u162, u163, u164, u165, u166, u167, u168, u169, u170, u171, u172, u173, u174, u175, u176, u177, u178, u179, u180, u181, u182, u183, u184, u185, u186, u187, u188, u189, s190, s191, s192, s193, s194, s195, s196, s197, s198, s199, s200, s201, s202, s203, s204, s205, s206, s207, s208, s209, s210, s211, s212, s213, s214, s215, s216, s217, s218, s219, s220, s221, s222, s223, s224, s225, s226, s227, s228, s229, s230], []⟩ wr := by
  have HMM := Lib.hid HMM0
  have HEL := Lib.hid hEL
  have hcl := cts_len n p
  have HRR := Lib.hid hR
  clear hR HMM0
  conv => arg 2; whnf
  have hcs : (cts n p).length = (cts n' p').length + 1 := by rw [hC]; simp
  have hes1 : (evs n p).length = (evs n' p').length + 1 := by rw [hE]; simp
  obtain ⟨A8'', c8'', hv, hc8, _, hA8⟩ := HMM.out.rowO.form
  obtain ⟨hv1, hv2⟩ : A8' = A8'' ∧ c8' = c8'' := by injection hv with h1 _ h3; exact ⟨h1, h3⟩
  clear hv
  subst hv1 hv2
  obtain ⟨g8, rfl, hg8b, hg8⟩ := hA8 (by omega)
  obtain ⟨A9'', c9'', hv, hc9, _, _⟩ := HMM.out.rowC.form
  have hv1 : c9' = c9'' := by injection hv
  clear hv
  subst hv1
  have hEL := HEL.out
  generalize he0 : (evs n' p').length = e0 at *
  generalize hc0 : (cts n' p').length = c0 at *
  have hcl2 : c0 = e0 + 1 := by have := cts_len n' p'; omega
  have hcell8 : ∀ j u, (evCells ⟨qk, qv, qf, qt, ⟨snm, sna, six⟩, qx⟩)[j]? = some u → wr.cell? ⟨g8, e0 * 8 + j, none⟩ = some u := fun j u hu => by
    have := (GRow.rd HMM.out.rowO).at (b := g8) (o := 0) rfl (i := e0) (a := ⟨qk, qv, qf, qt, ⟨snm, sna, six⟩, qx⟩) (by rw [hE, ← he0]; simp) (j := j) (u := u) hu
    simpa [evK] using this
  have y1 := hcell8 1 _ rfl
  have y2 := hcell8 2 _ rfl
  have y4 := hcell8 4 _ rfl
  have y5 := hcell8 5 _ rfl
  have y6 := hcell8 6 _ rfl
  rw [hes1, hcs]
  have hmE1 : ((e0 + 1 : Nat) : Int) - 1 = e0 := by omega
  obtain ⟨mE, hmE⟩ : ∃ mE, mE = e0 + 1 := ⟨_, rfl⟩
  obtain ⟨mC, hmC⟩ : ∃ mC, mC = c0 + 1 := ⟨_, rfl⟩
  rw [hes1, ← hmE] at hc8
  rw [hcs, ← hmC] at hc9
  rw [← hmE, ← hmC]
  have a1 : (mE : Int) - 1 = e0 := by omega
  have a2 : (0 : Int) ≤ e0 := by omega
  have a3 : (e0 : Int) < mE := by omega
  have a4 : (mE : Int) ≤ 1000002 := by omega
  have a5 : ((mE : Int) == 0) = false := by rw [beq_eq_false_iff_ne]; omega
  have a6 : (mC : Int) - 1 = c0 := by omega
  have a7 : (0 : Int) ≤ c0 := by omega
  have a8 : (mC : Int) ≤ 1000002 := by omega
  have a9 : (e0 : Int) ≤ c8' := by omega
  have a10 : (c0 : Int) ≤ c9' := by omega
  have a11 : ¬ (et : Int) ≤ qf := by omega
  have gf : ((qf : Int) != qf) = false := by simp
  have HMME := Lib.hid hmE
  have HMMC := Lib.hid hmC
  have HE := Lib.hid hE
  have HCC := Lib.hid hC
  have HE0 := Lib.hid he0
  have HC0 := Lib.hid hc0
  have HE1 := Lib.hid hes1
  have HC1 := Lib.hid hcs
  clear hmE hmC hE hC he0 hc0 hes1 hcs hcell8 hcl hcl2 hEL hmE1 hA8 hto
  go_upto_region 25 with fail
  go_cut [178] from 128 to 189 (fun x wx => x = .bool false ∧ MidTok C W w4 wx bt b0 B (.slice (some ⟨g8, 0, none⟩) mE c8') (.slice (some ⟨g9, 0, none⟩) mC c9') (evs n p) (cts n p) n' F5)
  case first =>
    have hfin : ∀ q, MidTok C W w4 ((wr.alloc (.cells #[.int .i64 2, .int .i64 ev, .int .i64 qf, .int .i64 et, .bool snm, .string ⟨sna.toArray⟩, .int .i64 six, .string ⟨etx.toArray⟩] 40)).drewN q) bt b0 B (.slice (some ⟨g8, 0, none⟩) mE c8') (.slice (some ⟨g9, 0, none⟩) mC c9') (evs n p) (cts n p) n' F5 := fun q => by
      have := HMM.out.on (below_drewN (below1 wr (.cells #[.int .i64 2, .int .i64 ev, .int .i64 qf, .int .i64 et, .bool snm, .string ⟨sna.toArray⟩, .int .i64 six, .string ⟨etx.toArray⟩] 40)) q) hbtw
      rw [HE1.out, HC1.out, ← HMME.out, ← HMMC.out] at this
      exact this
    have HFI := Lib.hid hfin
    clear hfin
    by_cases hvq : ev = qv
    · subst hvq
      have gv : (ev != ev) = false := by simp
      clear hval
      go_quiet (fail)
      go_wp2
      go_meet
      case rel => exact ⟨rfl, HFI.out _⟩
    · obtain rfl : ev = 1 := by
        rcases hval with h | h
        · exact absurd h hvq
        · exact h
      have gv : ((1 : Int) != qv) = true := bne_iff_ne.2 hvq
      clear hval hvq
      go_quiet (fail)
      go_wp2
      go_meet
      case rel => exact ⟨rfl, HFI.out _⟩
  case rest =>
    obtain ⟨rfl, M⟩ := hcut
    have HMC := Lib.hid M
    clear M x0 x1 x2 x3 x4 x5 x6 x7 y1 y2 y4 y5 y6
    go_upto_region 27 with fail
    go_quiet (fail)
    go_wp2
    have hcut := HMC.out.cut HE.out HCC.out nq
    rw [HE0.out, HC0.out] at hcut
    refine HRR.out _ _ ?_ rfl
    unfold EvI
    (repeat apply Exists.intro)
    exact ⟨⟨1, rfl, .inr ⟨rfl, hcut⟩⟩, rfl⟩

end Go.Proofs.YtpjdmhfineeimaaDoor
