/- The contract of the document's 'some' (riffleref10), for all levels; written by tools/r10q.py. -/
import Derived.Test.YtaklbbkjhbkieaaRows
import Derived.Test.YtaklbbkjhbkieaaJ07
import Derived.Test.YtaklbbkjhbkieaaJ11
import Derived.BigRegion
import Derived.Laws.RangeAny
import Derived.Laws.Cover4
import Derived.Lib.RuneBytes
import Derived.Shelf.Strings.Builder1
import Derived.Shelf.Small.Utf8
import Derived.Shelf.Small.Strs
import Derived.Shelf.Strings.BuilderF
import Derived.Shelf.Strings.BuilderK
import Derived.Shelf.Strings.BuilderRune
import Derived.Shelf.Strings.Search1
import Derived.Shelf.Strings.Runes
import Derived.Test.YtaklbbkjhbkieaaProg
import Derived.Lib.FrozenHead2
import Derived.Lib.OthersKept
import Derived.Lib.Builder
import Derived.Deep.DeepMust
import Derived.Laws.Runes
namespace Go.Proofs.Ytaklbbkjhbkieaa
open Go.RowKit
set_option linter.unusedVariables false

/-- A part that a callee answered is put into the caller's own. -/
theorem callee_done {W w1 w2 : World} {t : Tree} {x : V6} (o1 : Own w1 W.heap.size 44 zero9) (hb1 : Below W.heap.size W w1) (hk : VKept w1.heap.size w2.heap.size w2 t x) (hb2 : Below w1.heap.size w1 w2) (b : Bool) (k f : Int) :
    Own w2 W.heap.size 44 zero9 ∧ Own (put9 w2 W.heap.size x.kd x.fr x.to ⟨x.tx.toArray⟩ x.A x.n x.c x.B x.m x.d b k f) W.heap.size 44 (cells9 x.kd x.fr x.to ⟨x.tx.toArray⟩ x.A x.n x.c x.B x.m x.d b k f) ∧
    Below W.heap.size W (put9 w2 W.heap.size x.kd x.fr x.to ⟨x.tx.toArray⟩ x.A x.n x.c x.B x.m x.d b k f) ∧
    VKept W.heap.size (put9 w2 W.heap.size x.kd x.fr x.to ⟨x.tx.toArray⟩ x.A x.n x.c x.B x.m x.d b k f).heap.size (put9 w2 W.heap.size x.kd x.fr x.to ⟨x.tx.toArray⟩ x.A x.n x.c x.B x.m x.d b k f) t x := by
  have o2 := o1.stay hb2 o1.inside
  have hin := o1.inside
  refine ⟨o2, put9_own o2 _ _ _ _ _ _ _ _ _ _ _ _ _, put9_below (hb1.trans (hb2.mono hb1.size)) _ _ _ _ _ _ _ _ _ _ _ _ _, fun u hu => hk u (fun b h1 h2 => ?_)⟩
  exact (hu b (by omega) (by rw [put9_size]; exact h2)).trans (put9_high (by omega) _ _ _ _ _ _ _ _ _ _ _ _ _)
theorem zero_done {W w1 : World} (o1 : Own w1 W.heap.size 44 zero9) (hb1 : Below W.heap.size W w1) (k f : Int) :
    Own (put9 w1 W.heap.size 0 0 0 ⟨#[]⟩ none 0 0 none 0 0 false k f) W.heap.size 44 (cells9 0 0 0 ⟨#[]⟩ none 0 0 none 0 0 false k f) ∧
    Below W.heap.size W (put9 w1 W.heap.size 0 0 0 ⟨#[]⟩ none 0 0 none 0 0 false k f) ∧
    VKept W.heap.size (put9 w1 W.heap.size 0 0 0 ⟨#[]⟩ none 0 0 none 0 0 false k f).heap.size (put9 w1 W.heap.size 0 0 0 ⟨#[]⟩ none 0 0 none 0 0 false k f) zeroT ⟨0, 0, 0, [], none, 0, 0, none, 0, 0⟩ :=
  ⟨put9_own o1 _ _ _ _ _ _ _ _ _ _ _ _ _, put9_below hb1 _ _ _ _ _ _ _ _ _ _ _ _ _, fun u _ => leaf_is u 0 0 0 []⟩
theorem rkind_at (c : UInt8) (kd : Int) (h : kindI c.toNat = kd) (w : World) : Calls Try.prog 25 #[.int .u8 c.toNat] w fun e w' => e = .returned (.int .i64 kd) ∧ Below w.heap.size w w' := by
  subst h
  exact rkind_any _ _

set_option maxHeartbeats 8000000 in
set_option maxRecDepth 100000 in
theorem rsome_quo (s : ByteArray) (k : Nat) (cl : Bool) (m : Int) (hs : s.size ≤ 50000) (hk : k < s.size) (hkd : kindI s[k].toNat = 8) (W : World) (P : PartR) (HC : ∀ w, Calls Try.prog 26 #[.string s, .int .i64 k] w fun e w' => PartP w P e w') :
    Calls Try.prog 17 #[.string s, .int .i64 k, .int .i64 m, .bool cl] W fun e w' => PartP W P e w' := by
  obtain ⟨pv, pb, pp, pf⟩ := P
  have HC := Lib.hid HC
  go_enter Try.func17, Try.ntmps17
  go_wp2_with (first
    | (go_at_call 25
       go_must (
         refine (rkind_at s[k] 8 hkd _).mono ?_
         rintro e w1 ⟨rfl, hb1⟩
         have o1 : Own w1 W.heap.size 44 zero9 := (Own.fresh W 44 zero9).stay hb1 (by simp)
         have hb1 := (below1 W (.cells zero9 44)).trans (hb1.mono (by simp))
         have H1 := Lib.hid (And.intro o1 hb1)
         clear o1 hb1))
    | (go_at_call 26
       go_must (
         refine (HC.out _).mono ?_
         rintro e w2 ⟨x, rfl, hk2, hb2⟩
         obtain ⟨o4, hO, hT, hV⟩ := callee_done H1.out.1 H1.out.2 hk2 hb2 pb pp pf
         obtain ⟨p0, p1, p2, p3, p4, p5, p6, p7, p8, f0, f1, f2, f3, f4, f5, f6, f7, f8⟩ := nine_facts o4
         unfold put9 at hO hT hV
         have HO := Lib.hid hO
         have HT := Lib.hid hT
         have HV := Lib.hid hV
         clear hO hT hV o4)))
  refine bodyPost_ret (results_cell_row rfl _ _ W.heap.size _ _ (0, 0) _ rfl HO.out Try.underlying44 rfl part_size) rfl ?_
  exact ⟨x, rfl, HV.out, HT.out⟩
set_option maxHeartbeats 8000000 in
set_option maxRecDepth 100000 in
theorem rsome_num (s : ByteArray) (k : Nat) (cl : Bool) (m : Int) (hs : s.size ≤ 50000) (hk : k < s.size) (hkd : kindI s[k].toNat = 9) (W : World) (P : PartR) (HC : ∀ w, Calls Try.prog 27 #[.string s, .int .i64 k, .bool cl] w fun e w' => PartP w P e w') :
    Calls Try.prog 17 #[.string s, .int .i64 k, .int .i64 m, .bool cl] W fun e w' => PartP W P e w' := by
  obtain ⟨pv, pb, pp, pf⟩ := P
  have HC := Lib.hid HC
  go_enter Try.func17, Try.ntmps17
  go_wp2_with (first
    | (go_at_call 25
       go_must (
         refine (rkind_at s[k] 9 hkd _).mono ?_
         rintro e w1 ⟨rfl, hb1⟩
         have o1 : Own w1 W.heap.size 44 zero9 := (Own.fresh W 44 zero9).stay hb1 (by simp)
         have hb1 := (below1 W (.cells zero9 44)).trans (hb1.mono (by simp))
         have H1 := Lib.hid (And.intro o1 hb1)
         clear o1 hb1))
    | (go_at_call 27
       go_must (
         refine (HC.out _).mono ?_
         rintro e w2 ⟨x, rfl, hk2, hb2⟩
         obtain ⟨o4, hO, hT, hV⟩ := callee_done H1.out.1 H1.out.2 hk2 hb2 pb pp pf
         obtain ⟨p0, p1, p2, p3, p4, p5, p6, p7, p8, f0, f1, f2, f3, f4, f5, f6, f7, f8⟩ := nine_facts o4
         unfold put9 at hO hT hV
         have HO := Lib.hid hO
         have HT := Lib.hid hT
         have HV := Lib.hid hV
         clear hO hT hV o4)))
  refine bodyPost_ret (results_cell_row rfl _ _ W.heap.size _ _ (0, 0) _ rfl HO.out Try.underlying44 rfl part_size) rfl ?_
  exact ⟨x, rfl, HV.out, HT.out⟩
set_option maxHeartbeats 8000000 in
set_option maxRecDepth 100000 in
theorem rsome_wrd (s : ByteArray) (k : Nat) (cl : Bool) (m : Int) (hs : s.size ≤ 50000) (hk : k < s.size) (hkd : kindI s[k].toNat = 10) (W : World) (P : PartR) (HC : ∀ w, Calls Try.prog 28 #[.string s, .int .i64 k] w fun e w' => PartP w P e w') :
    Calls Try.prog 17 #[.string s, .int .i64 k, .int .i64 m, .bool cl] W fun e w' => PartP W P e w' := by
  obtain ⟨pv, pb, pp, pf⟩ := P
  have HC := Lib.hid HC
  go_enter Try.func17, Try.ntmps17
  go_wp2_with (first
    | (go_at_call 25
       go_must (
         refine (rkind_at s[k] 10 hkd _).mono ?_
         rintro e w1 ⟨rfl, hb1⟩
         have o1 : Own w1 W.heap.size 44 zero9 := (Own.fresh W 44 zero9).stay hb1 (by simp)
         have hb1 := (below1 W (.cells zero9 44)).trans (hb1.mono (by simp))
         have H1 := Lib.hid (And.intro o1 hb1)
         clear o1 hb1))
    | (go_at_call 28
       go_must (
         refine (HC.out _).mono ?_
         rintro e w2 ⟨x, rfl, hk2, hb2⟩
         obtain ⟨o4, hO, hT, hV⟩ := callee_done H1.out.1 H1.out.2 hk2 hb2 pb pp pf
         obtain ⟨p0, p1, p2, p3, p4, p5, p6, p7, p8, f0, f1, f2, f3, f4, f5, f6, f7, f8⟩ := nine_facts o4
         unfold put9 at hO hT hV
         have HO := Lib.hid hO
         have HT := Lib.hid hT
         have HV := Lib.hid hV
         clear hO hT hV o4)))
  refine bodyPost_ret (results_cell_row rfl _ _ W.heap.size _ _ (0, 0) _ rfl HO.out Try.underlying44 rfl part_size) rfl ?_
  exact ⟨x, rfl, HV.out, HT.out⟩
set_option maxHeartbeats 8000000 in
set_option maxRecDepth 100000 in
theorem rsome_arr (s : ByteArray) (k : Nat) (cl : Bool) (n : Nat) (hs : s.size ≤ 50000) (hk : k < s.size) (hkd : kindI s[k].toNat = 2) (hn : n ≤ 100000) (W : World) (P : PartR) (HC : ∀ w, Calls Try.prog 29 #[.string s, .int .i64 k, .int .i64 ((n : Int) + 1), .bool cl] w fun e w' => PartP w P e w') :
    Calls Try.prog 17 #[.string s, .int .i64 k, .int .i64 ((n : Int) + 1), .bool cl] W fun e w' => PartP W P e w' := by
  obtain ⟨pv, pb, pp, pf⟩ := P
  have HC := Lib.hid HC
  have hn1 : ¬ ((n : Int) + 1) < 1 := by omega
  go_enter Try.func17, Try.ntmps17
  go_wp2_with (first
    | (go_at_call 25
       go_must (
         refine (rkind_at s[k] 2 hkd _).mono ?_
         rintro e w1 ⟨rfl, hb1⟩
         have o1 : Own w1 W.heap.size 44 zero9 := (Own.fresh W 44 zero9).stay hb1 (by simp)
         have hb1 := (below1 W (.cells zero9 44)).trans (hb1.mono (by simp))
         have H1 := Lib.hid (And.intro o1 hb1)
         clear o1 hb1))
    | (go_at_call 29
       go_must (
         refine (HC.out _).mono ?_
         rintro e w2 ⟨x, rfl, hk2, hb2⟩
         obtain ⟨o4, hO, hT, hV⟩ := callee_done H1.out.1 H1.out.2 hk2 hb2 pb pp pf
         obtain ⟨p0, p1, p2, p3, p4, p5, p6, p7, p8, f0, f1, f2, f3, f4, f5, f6, f7, f8⟩ := nine_facts o4
         unfold put9 at hO hT hV
         have HO := Lib.hid hO
         have HT := Lib.hid hT
         have HV := Lib.hid hV
         clear hO hT hV o4)))
  refine bodyPost_ret (results_cell_row rfl _ _ W.heap.size _ _ (0, 0) _ rfl HO.out Try.underlying44 rfl part_size) rfl ?_
  exact ⟨x, rfl, HV.out, HT.out⟩
set_option maxHeartbeats 8000000 in
set_option maxRecDepth 100000 in
theorem rsome_obj (s : ByteArray) (k : Nat) (cl : Bool) (n : Nat) (hs : s.size ≤ 50000) (hk : k < s.size) (hkd : kindI s[k].toNat = 4) (hn : n ≤ 100000) (W : World) (P : PartR) (HC : ∀ w, Calls Try.prog 30 #[.string s, .int .i64 k, .int .i64 ((n : Int) + 1), .bool cl] w fun e w' => PartP w P e w') :
    Calls Try.prog 17 #[.string s, .int .i64 k, .int .i64 ((n : Int) + 1), .bool cl] W fun e w' => PartP W P e w' := by
  obtain ⟨pv, pb, pp, pf⟩ := P
  have HC := Lib.hid HC
  have hn1 : ¬ ((n : Int) + 1) < 1 := by omega
  go_enter Try.func17, Try.ntmps17
  go_wp2_with (first
    | (go_at_call 25
       go_must (
         refine (rkind_at s[k] 4 hkd _).mono ?_
         rintro e w1 ⟨rfl, hb1⟩
         have o1 : Own w1 W.heap.size 44 zero9 := (Own.fresh W 44 zero9).stay hb1 (by simp)
         have hb1 := (below1 W (.cells zero9 44)).trans (hb1.mono (by simp))
         have H1 := Lib.hid (And.intro o1 hb1)
         clear o1 hb1))
    | (go_at_call 30
       go_must (
         refine (HC.out _).mono ?_
         rintro e w2 ⟨x, rfl, hk2, hb2⟩
         obtain ⟨o4, hO, hT, hV⟩ := callee_done H1.out.1 H1.out.2 hk2 hb2 pb pp pf
         obtain ⟨p0, p1, p2, p3, p4, p5, p6, p7, p8, f0, f1, f2, f3, f4, f5, f6, f7, f8⟩ := nine_facts o4
         unfold put9 at hO hT hV
         have HO := Lib.hid hO
         have HT := Lib.hid hT
         have HV := Lib.hid hV
         clear hO hT hV o4)))
  refine bodyPost_ret (results_cell_row rfl _ _ W.heap.size _ _ (0, 0) _ rfl HO.out Try.underlying44 rfl part_size) rfl ?_
  exact ⟨x, rfl, HV.out, HT.out⟩
set_option maxHeartbeats 8000000 in
set_option maxRecDepth 100000 in
theorem rsome_deep (s : ByteArray) (k : Nat) (cl : Bool) (m : Int) (hs : s.size ≤ 50000) (hk : k < s.size) (kd : Int) (hkd : kindI s[k].toNat = kd) (h : kd = 2 ∨ kd = 4) (W : World) :
    Calls Try.prog 17 #[.string s, .int .i64 k, .int .i64 0, .bool cl] W fun e w' => PartP W ⟨zeroT, false, k, 12⟩ e w' := by
  rcases h with rfl | rfl
  all_goals go_enter Try.func17, Try.ntmps17
  all_goals
    go_wp2_with (
      go_at_call 25
      go_must (
        refine (rkind_at s[k] _ hkd _).mono ?_
        rintro e w1 ⟨rfl, hb1⟩
        have o4 : Own w1 W.heap.size 44 zero9 := (Own.fresh W 44 zero9).stay hb1 (by simp)
        have hb1 := (below1 W (.cells zero9 44)).trans (hb1.mono (by simp))
        obtain ⟨hO, hT, hV⟩ := zero_done o4 hb1 k 12
        obtain ⟨p0, p1, p2, p3, p4, p5, p6, p7, p8, f0, f1, f2, f3, f4, f5, f6, f7, f8⟩ := nine_facts o4
        unfold put9 at hO hT hV
        have HO := Lib.hid hO
        have HT := Lib.hid hT
        have HV := Lib.hid hV
        clear hO hT hV o4
        clear hb1))
    refine bodyPost_ret (results_cell_row rfl _ _ W.heap.size _ _ (0, 0) _ rfl HO.out Try.underlying44 rfl part_size) rfl ?_
    exact ⟨⟨0, 0, 0, [], none, 0, 0, none, 0, 0⟩, rfl, HV.out, HT.out⟩
set_option maxHeartbeats 8000000 in
set_option maxRecDepth 100000 in
theorem rsome_bad (s : ByteArray) (k : Nat) (cl : Bool) (m : Int) (hs : s.size ≤ 50000) (hk : k < s.size) (kd : Int) (hkd : kindI s[k].toNat = kd) (h : (kd == 8) = false ∧ (kd == 9) = false ∧ (kd == 10) = false ∧ (kd == 2) = false ∧ (kd == 4) = false) (W : World) :
    Calls Try.prog 17 #[.string s, .int .i64 k, .int .i64 m, .bool cl] W fun e w' => PartP W ⟨zeroT, false, k, 8⟩ e w' := by
  obtain ⟨h8, h9, h10, h2, h4⟩ := h
  go_enter Try.func17, Try.ntmps17
  all_goals
    go_wp2_with (
      go_at_call 25
      go_must (
        refine (rkind_at s[k] _ hkd _).mono ?_
        rintro e w1 ⟨rfl, hb1⟩
        have o4 : Own w1 W.heap.size 44 zero9 := (Own.fresh W 44 zero9).stay hb1 (by simp)
        have hb1 := (below1 W (.cells zero9 44)).trans (hb1.mono (by simp))
        obtain ⟨hO, hT, hV⟩ := zero_done o4 hb1 k 8
        obtain ⟨p0, p1, p2, p3, p4, p5, p6, p7, p8, f0, f1, f2, f3, f4, f5, f6, f7, f8⟩ := nine_facts o4
        unfold put9 at hO hT hV
        have HO := Lib.hid hO
        have HT := Lib.hid hT
        have HV := Lib.hid hV
        clear hO hT hV o4
        clear hb1))
    refine bodyPost_ret (results_cell_row rfl _ _ W.heap.size _ _ (0, 0) _ rfl HO.out Try.underlying44 rfl part_size) rfl ?_
    exact ⟨⟨0, 0, 0, [], none, 0, 0, none, 0, 0⟩, rfl, HV.out, HT.out⟩

/-- 'some', with so many levels left. -/
theorem rsome_all (s : ByteArray) (cl : Bool) (hs : s.size ≤ 50000) : ∀ n : Nat, n ≤ 1000 → SomeC s cl n := by
  intro n
  induction n with
  | zero =>
    intro _ k hk W
    unfold someR
    rw [getD_at s k hk]
    show Calls _ _ #[.string s, .int .i64 k, .int .i64 0, .bool cl] _ _
    split
    · rename_i h; exact rsome_quo s k cl _ hs hk h W _ (fun w => rquoted_any s k (by omega) hk w _ rfl)
    split
    · rename_i h; exact rsome_num s k cl _ hs hk h W _ (fun w => rnumR_any s k cl hs hk w _ rfl)
    split
    · rename_i h; exact rsome_wrd s k cl _ hs hk h W _ (fun w => rwordR_any s k hs hk w _ rfl)
    rename_i h8 h9 h10
    by_cases h : kindI s[k].toNat = 2 ∨ kindI s[k].toNat = 4
    · rw [if_pos h]
      exact rsome_deep s k cl 0 hs hk (kindI s[k].toNat) rfl h W
    · rw [if_neg h]
      exact rsome_bad s k cl _ hs hk (kindI s[k].toNat) rfl ⟨beq_eq_false_iff_ne.2 h8, beq_eq_false_iff_ne.2 h9, beq_eq_false_iff_ne.2 h10, beq_eq_false_iff_ne.2 (fun e => h (.inl e)), beq_eq_false_iff_ne.2 (fun e => h (.inr e))⟩ W
  | succ n ih =>
    intro hn k hk W
    have HS := ih (by omega)
    unfold someR
    rw [getD_at s k hk]
    rw [show ((n + 1 : Nat) : Int) = (n : Int) + 1 from rfl]
    split
    · rename_i h; exact rsome_quo s k cl _ hs hk h W _ (fun w => rquoted_any s k (by omega) hk w _ rfl)
    split
    · rename_i h; exact rsome_num s k cl _ hs hk h W _ (fun w => rnumR_any s k cl hs hk w _ rfl)
    split
    · rename_i h; exact rsome_wrd s k cl _ hs hk h W _ (fun w => rwordR_any s k hs hk w _ rfl)
    split
    · rename_i h; exact rsome_arr s k cl n hs hk h (by omega) W _ (fun w => rarr_any s cl n k hs (by omega) HS hk w)
    split
    · rename_i h; exact rsome_obj s k cl n hs hk h (by omega) W _ (fun w => robj_any s cl n k hs (by omega) HS hk w)
    · rename_i h8 h9 h10 h2 h4
      exact rsome_bad s k cl _ hs hk (kindI s[k].toNat) rfl ⟨beq_eq_false_iff_ne.2 h8, beq_eq_false_iff_ne.2 h9, beq_eq_false_iff_ne.2 h10, beq_eq_false_iff_ne.2 h2, beq_eq_false_iff_ne.2 h4⟩ W

end Go.Proofs.Ytaklbbkjhbkieaa

namespace Go.Proofs.Ytaklbbkjhbkieaa
open Go.RowKit
set_option linter.unusedVariables false

theorem results_cc {P : Program} {fn : Func} {p q : Tmp} {ty tz : TypeId} (h : fn.results = #[.cell p ty, .cell q tz]) (tmps : Array Value) (w : World) (g : Nat) (T : TypeId) (cs : Array Value) (fr : Nat × Nat) (d : TypeDesc) (g' : Nat) (T' : TypeId) (cs' : Array Value) (fr' : Nat × Nat) (d' : TypeDesc)
    (hp : tmps.getD p undef = .pointer (some ⟨g, 0, none⟩)) (hg : w.heap[g]? = some (.cells cs T fr)) (hu : P.underlying ty = some d) (hd : (match d with | .struct _ | .array _ _ => true | _ => false) = true) (hi : (P.info? ty).map (·.size) = some cs.size)
    (hp' : tmps.getD q undef = .pointer (some ⟨g', 0, none⟩)) (hg' : w.heap[g']? = some (.cells cs' T' fr')) (hu' : P.underlying tz = some d') (hd' : (match d' with | .struct _ | .array _ _ => true | _ => false) = true) (hi' : (P.info? tz).map (·.size) = some cs'.size) :
    (results fn tmps).run P w = .ok (.tuple #[.agg cs, .agg cs']) w := by
  have h1 : tmps[p]?.getD undef = .pointer (some ⟨g, 0, none⟩) := by simpa using hp
  have h2 : tmps[q]?.getD undef = .pointer (some ⟨g', 0, none⟩) := by simpa using hp'
  simp [results, h, h1, h2, asAddr, run_loadVar_row w g T ty cs fr d hg hu hd hi, run_loadVar_row w g' T' tz cs' fr' d' hg' hu' hd' hi', Result.andThen]
theorem results_ctc {P : Program} {fn : Func} {t p q : Tmp} {ty tz : TypeId} (h : fn.results = #[.cell p ty, .tmp t, .cell q tz]) (tmps : Array Value) (w : World) (g : Nat) (T : TypeId) (cs : Array Value) (fr : Nat × Nat) (d : TypeDesc) (g' : Nat) (T' : TypeId) (cs' : Array Value) (fr' : Nat × Nat) (d' : TypeDesc)
    (hp : tmps.getD p undef = .pointer (some ⟨g, 0, none⟩)) (hg : w.heap[g]? = some (.cells cs T fr)) (hu : P.underlying ty = some d) (hd : (match d with | .struct _ | .array _ _ => true | _ => false) = true) (hi : (P.info? ty).map (·.size) = some cs.size)
    (hp' : tmps.getD q undef = .pointer (some ⟨g', 0, none⟩)) (hg' : w.heap[g']? = some (.cells cs' T' fr')) (hu' : P.underlying tz = some d') (hd' : (match d' with | .struct _ | .array _ _ => true | _ => false) = true) (hi' : (P.info? tz).map (·.size) = some cs'.size) :
    (results fn tmps).run P w = .ok (.tuple #[.agg cs, tmps.getD t undef, .agg cs']) w := by
  have h1 : tmps[p]?.getD undef = .pointer (some ⟨g, 0, none⟩) := by simpa using hp
  have h2 : tmps[q]?.getD undef = .pointer (some ⟨g', 0, none⟩) := by simpa using hp'
  simp [results, h, h1, h2, asAddr, run_loadVar_row w g T ty cs fr d hg hu hd hi, run_loadVar_row w g' T' tz cs' fr' d' hg' hu' hd' hi', Result.andThen]
theorem own_drew {w : World} {b : Nat} {T : TypeId} {cs : Array Value} (h : Own w b T cs) : Own w.drew b T cs := h
theorem val_size : (Try.prog.info? 27).map (·.size) = some 6 := by kernel_rfl
theorem verd_size : (Try.prog.info? 29).map (·.size) = some 2 := by kernel_rfl
def zero6 : Array Value := #[.int .i64 0, .int .i64 0, .int .i64 0, .string ⟨#[]⟩, .slice none 0 0, .slice none 0 0]
def zeroY : V6 := ⟨0, 0, 0, [], none, 0, 0, none, 0, 0⟩
def put6R (w : World) (g : Nat) (x : V6) : World :=
  (((((w.setCell ⟨g, 0, none⟩ (.int .i64 x.kd)).setCell ⟨g, 1, none⟩ (.int .i64 x.fr)).setCell ⟨g, 2, none⟩ (.int .i64 x.to)).setCell ⟨g, 3, none⟩ (.string ⟨x.tx.toArray⟩)).setCell ⟨g, 4, none⟩ (.slice x.A x.n x.c)).setCell ⟨g, 5, none⟩ (.slice x.B x.m x.d)
def put2R (w : World) (g : Nat) (kd : Int) (p : Nat) : World := (w.setCell ⟨g, 0, none⟩ (.int .i64 kd)).setCell ⟨g, 1, none⟩ (.int .i64 p)
def putS (w : World) (g : Nat) (x : V6) (kd : Int) (p : Nat) : World := put2R (put6R w g x) (g + 1) kd p
theorem six_own {w : World} {g : Nat} {T : TypeId} (h : Own w g T zero6) (x : V6) : Own (put6R w g x) g T (v6Cells x).toArray := by
  have := (((((h.put 0 (.int .i64 x.kd)).put 1 (.int .i64 x.fr)).put 2 (.int .i64 x.to)).put 3 (.string ⟨x.tx.toArray⟩)).put 4 (.slice x.A x.n x.c)).put 5 (.slice x.B x.m x.d)
  unfold put6R
  simpa [zero6, v6Cells] using this
theorem six_past {w : World} {g b : Nat} {T : TypeId} {cs : Array Value} (h : Own w b T cs) (hb : b ≠ g) (x : V6) : Own (put6R w g x) b T cs :=
  (((((h.past (p := ⟨g, 0, none⟩) hb _).past (p := ⟨g, 1, none⟩) hb _).past (p := ⟨g, 2, none⟩) hb _).past (p := ⟨g, 3, none⟩) hb _).past (p := ⟨g, 4, none⟩) hb _).past (p := ⟨g, 5, none⟩) hb _
theorem two_own {w : World} {g : Nat} {T : TypeId} {x y : Value} (h : Own w g T #[x, y]) (kd : Int) (p : Nat) : Own (put2R w g kd p) g T #[.int .i64 kd, .int .i64 p] := by
  have := (h.put 0 (.int .i64 kd)).put 1 (.int .i64 (p : Int))
  unfold put2R
  simpa using this
theorem two_past {w : World} {g b : Nat} {T : TypeId} {cs : Array Value} (h : Own w b T cs) (hb : b ≠ g) (kd : Int) (p : Nat) : Own (put2R w g kd p) b T cs := (h.past (p := ⟨g, 0, none⟩) hb _).past (p := ⟨g, 1, none⟩) hb _
theorem putS_high {w : World} {g b : Nat} (h : b ≠ g) (h1 : b ≠ g + 1) (x : V6) (kd : Int) (p : Nat) : (putS w g x kd p).heap[b]? = w.heap[b]? := by
  have e : ∀ (u : World) (c i : Nat) (v : Value), b ≠ c → (u.setCell ⟨c, i, none⟩ v).heap[b]? = u.heap[b]? := fun u c i v hb => Below.heap_setCell u _ v b hb
  unfold putS put2R put6R
  rw [e _ _ _ _ h1, e _ _ _ _ h1, e _ _ _ _ h, e _ _ _ _ h, e _ _ _ _ h, e _ _ _ _ h, e _ _ _ _ h, e _ _ _ _ h]
theorem putS_size (w : World) (g : Nat) (x : V6) (kd : Int) (p : Nat) : (putS w g x kd p).heap.size = w.heap.size := by
  unfold putS put2R put6R
  simp [World.setCell]
theorem VKept.drew1 {B : Nat} {w : World} {t : Tree} {x : V6} (h : VKept B w.heap.size w t x) : VKept B w.drew.heap.size w.drew t x := h
/-- Where Some stands, once the document's 'some' has answered. -/
structure SmX (W w : World) (len : Nat) (gk : Int) (x : V6) (pv : Tree) (E : Nat) : Prop where
  o6 : Own w W.heap.size 27 zero6
  o8 : Own w (W.heap.size + 1) 29 #[.int .i64 0, .int .i64 0]
  o9 : Own w (W.heap.size + 2) 29 #[.int .i64 gk, .int .i64 len]
  bel : Below W.heap.size W w
  kept : VKept (W.heap.size + 3) E w pv x
  top : E ≤ w.heap.size
set_option maxHeartbeats 4000000 in
theorem SmX.done {W w : World} {len : Nat} {gk : Int} {x : V6} {pv : Tree} {E : Nat} (h : SmX W w len gk x pv E) (kd : Int) (p : Nat) :
    Own (putS w W.heap.size x kd p) W.heap.size 27 (v6Cells x).toArray ∧ Own (putS w W.heap.size x kd p) (W.heap.size + 1) 29 #[.int .i64 kd, .int .i64 p] ∧
    VKept W.heap.size (putS w W.heap.size x kd p).heap.size (putS w W.heap.size x kd p) pv x ∧ Below W.heap.size W (putS w W.heap.size x kd p) := by
  have ht := h.top
  have p1 : Own (putS w W.heap.size x kd p) W.heap.size 27 (v6Cells x).toArray := by
    unfold putS
    exact two_past (six_own h.o6 x) (by omega) kd p
  have p2 : Own (putS w W.heap.size x kd p) (W.heap.size + 1) 29 #[.int .i64 kd, .int .i64 p] := by
    unfold putS
    exact two_own (six_past h.o8 (by omega) x) kd p
  have hs := putS_size w W.heap.size x kd p
  have hh : ∀ b, b ≠ W.heap.size → b ≠ W.heap.size + 1 → (putS w W.heap.size x kd p).heap[b]? = w.heap[b]? := fun b h1 h2 => putS_high h1 h2 x kd p
  have p3 : Below W.heap.size W (putS w W.heap.size x kd p) := by
    unfold putS put2R put6R
    exact (((((((h.bel.setCell (p := ⟨W.heap.size, 0, none⟩) (Nat.le_refl _) _).setCell (p := ⟨W.heap.size, 1, none⟩) (Nat.le_refl _) _).setCell (p := ⟨W.heap.size, 2, none⟩) (Nat.le_refl _) _).setCell (p := ⟨W.heap.size, 3, none⟩) (Nat.le_refl _) _).setCell (p := ⟨W.heap.size, 4, none⟩) (Nat.le_refl _) _).setCell (p := ⟨W.heap.size, 5, none⟩) (Nat.le_refl _) _).setCell (p := ⟨W.heap.size + 1, 0, none⟩) (Nat.le_succ _) _).setCell (p := ⟨W.heap.size + 1, 1, none⟩) (Nat.le_succ _) _
  generalize putS w W.heap.size x kd p = wF at p1 p2 p3 hs hh ⊢
  exact ⟨p1, p2, fun u hu => h.kept u (fun b h1 h2 => (hu b (by omega) (by omega)).trans (hh b (by omega) (by omega))), p3⟩
/-- How Some ends. -/
def SomeEnd (W : World) (r : Tree × Bool × Int × Nat) (e : Ending) (w' : World) : Prop :=
  ∃ x : V6, e = .returned (.tuple #[.agg (v6Cells x).toArray, .bool r.2.1, .agg #[.int .i64 r.2.2.1, .int .i64 r.2.2.2]]) ∧ VKept W.heap.size w'.heap.size w' r.1 x ∧ Below W.heap.size W w'
theorem newN_most (d : Nat) (hd : 1 ≤ d) : (newN (d : Int)).most = d := by
  unfold newN
  show (if (d : Int) < 1 then 1 else (d : Int).toNat) = d
  rw [if_neg (by omega)]
  omega

set_option maxHeartbeats 16000000 in
set_option maxRecDepth 100000 in
theorem rSome_et (s : ByteArray) (d : Nat) (hs : s.size ≤ 50000) (hd : 1 ≤ d) (hd2 : d ≤ 1000) (k0 : Nat) (hk0 : blankR s.data.toList 0 = k0) (hge : s.size ≤ k0) (W : World) :
    Calls Try.prog 12 #[.string s, .int .i64 d, .bool true] W fun e w' => SomeEnd W (zeroT, false, 11, s.size) e w' := by
  have HK := Lib.hid (fun w => rblank_at s hs 0 k0 0 rfl (Nat.zero_le _) hk0 w)
  clear hk0
  go_enter Try.func12, Try.ntmps12
  go_upto_region 5 with (
    go_at_call 16
    go_must (
      refine (HK.out _).mono ?_
      rintro e wP ⟨rfl, hwP⟩
      have S : SmX W wP s.size 0 zeroY zeroT 0 := by
        rw [← hwP]
        have b1 := below1 W (.cells zero6 27)
        have b2 := b1.alloc b1.size (.cells #[.int .i64 0, .int .i64 0] 29)
        have b3 := b2.alloc b2.size (.cells #[.int .i64 0, .int .i64 s.size] 29)
        have p2 := Own.fresh (W.alloc (.cells zero6 27)) 29 #[.int .i64 0, .int .i64 0]
        have p3 := Own.fresh ((W.alloc (.cells zero6 27)).alloc (.cells #[.int .i64 0, .int .i64 0] 29)) 29 #[.int .i64 0, .int .i64 s.size]
        simp at p2 p3
        exact ⟨((Own.fresh W 27 zero6).over _).over _, p2.over _, p3, b3, fun u _ => leaf_is u 0 0 0 [], Nat.zero_le _⟩
      clear hwP))
  have h00 := S.o9.free 0
  have h01 := S.o9.at 0
  simp at h01
  go_upto_region 8 with fail
  have S1 : SmX W (wP.setCell ⟨W.heap.size + 2, 0, none⟩ (.int .i64 11)) s.size 11 zeroY zeroT 0 :=
    ⟨S.o6.past (by show W.heap.size ≠ W.heap.size + 2; omega) _, S.o8.past (by show W.heap.size + 1 ≠ W.heap.size + 2; omega) _, by have := S.o9.put 0 (.int .i64 11); simpa using this, S.bel.setCell (by show W.heap.size ≤ W.heap.size + 2; omega) _, fun u _ => leaf_is u 0 0 0 [], Nat.zero_le _⟩
  clear h00 h01
  generalize wP.setCell ⟨W.heap.size + 2, 0, none⟩ (.int .i64 11) = wQ at S1 ⊢
  clear S
  have S := S1
  clear S1
  have y0 := S.o6.at 0
  have y1 := S.o6.at 1
  have y2 := S.o6.at 2
  have y3 := S.o6.at 3
  have y4 := S.o6.at 4
  have y5 := S.o6.at 5
  simp [zero6] at y0 y1 y2 y3 y4 y5
  have f0 := S.o6.free 0
  have f1 := S.o6.free 1
  have f2 := S.o6.free 2
  have f3 := S.o6.free 3
  have f4 := S.o6.free 4
  have f5 := S.o6.free 5
  have s0 := S.o8.at 0
  have s1 := S.o8.at 1
  simp at s0 s1
  have g0 := S.o8.free 0
  have g1 := S.o8.free 1
  have r0 := S.o9.at 0
  have r1 := S.o9.at 1
  simp at r0 r1
  have h0 := S.o9.free 0
  go_region
  all_goals
    rename_i hK
    obtain ⟨e6, e8, hk, hb⟩ := S.done 11 s.size
    have hk := hk.drew1
    have Z6 := own_drew e6
    have Z8 := own_drew e8
    have hb := hb.drew
    unfold putS put2R put6R at Z6 Z8 hk hb
    try dsimp only [zeroY] at Z6 Z8 hk hb
    have HZ6 := Lib.hid Z6
    have HZ8 := Lib.hid Z8
    have HV := Lib.hid hk
    have HT := Lib.hid hb
    clear Z6 Z8 hk hb e6 e8 y0 y1 y2 y3 y4 y5 f0 f1 f2 f3 f4 f5 s0 s1 g0 g1 r0 r1 h0
    refine hK _ _ ?_
    go_wp2
    refine bodyPost_ret (results_ctc rfl _ _ W.heap.size _ _ (0, 0) _ (W.heap.size + 1) _ _ (0, 0) _ rfl HZ6.out Try.underlying27 rfl val_size rfl HZ8.out Try.underlying29 rfl verd_size) rfl ?_
    exact ⟨_, rfl, HV.out, HT.out⟩

set_option maxHeartbeats 16000000 in
set_option maxRecDepth 100000 in
theorem rSome_ef (s : ByteArray) (d : Nat) (hs : s.size ≤ 50000) (hd : 1 ≤ d) (hd2 : d ≤ 1000) (k0 : Nat) (hk0 : blankR s.data.toList 0 = k0) (hge : s.size ≤ k0) (W : World) :
    Calls Try.prog 12 #[.string s, .int .i64 d, .bool false] W fun e w' => SomeEnd W (zeroT, false, 0, s.size) e w' := by
  have HK := Lib.hid (fun w => rblank_at s hs 0 k0 0 rfl (Nat.zero_le _) hk0 w)
  clear hk0
  go_enter Try.func12, Try.ntmps12
  go_upto_region 5 with (
    go_at_call 16
    go_must (
      refine (HK.out _).mono ?_
      rintro e wP ⟨rfl, hwP⟩
      have S : SmX W wP s.size 0 zeroY zeroT 0 := by
        rw [← hwP]
        have b1 := below1 W (.cells zero6 27)
        have b2 := b1.alloc b1.size (.cells #[.int .i64 0, .int .i64 0] 29)
        have b3 := b2.alloc b2.size (.cells #[.int .i64 0, .int .i64 s.size] 29)
        have p2 := Own.fresh (W.alloc (.cells zero6 27)) 29 #[.int .i64 0, .int .i64 0]
        have p3 := Own.fresh ((W.alloc (.cells zero6 27)).alloc (.cells #[.int .i64 0, .int .i64 0] 29)) 29 #[.int .i64 0, .int .i64 s.size]
        simp at p2 p3
        exact ⟨((Own.fresh W 27 zero6).over _).over _, p2.over _, p3, b3, fun u _ => leaf_is u 0 0 0 [], Nat.zero_le _⟩
      clear hwP))
  go_upto_region 8 with fail
  have y0 := S.o6.at 0
  have y1 := S.o6.at 1
  have y2 := S.o6.at 2
  have y3 := S.o6.at 3
  have y4 := S.o6.at 4
  have y5 := S.o6.at 5
  simp [zero6] at y0 y1 y2 y3 y4 y5
  have f0 := S.o6.free 0
  have f1 := S.o6.free 1
  have f2 := S.o6.free 2
  have f3 := S.o6.free 3
  have f4 := S.o6.free 4
  have f5 := S.o6.free 5
  have s0 := S.o8.at 0
  have s1 := S.o8.at 1
  simp at s0 s1
  have g0 := S.o8.free 0
  have g1 := S.o8.free 1
  have r0 := S.o9.at 0
  have r1 := S.o9.at 1
  simp at r0 r1
  have h0 := S.o9.free 0
  go_region
  all_goals
    rename_i hK
    obtain ⟨e6, e8, hk, hb⟩ := S.done 0 s.size
    have hk := hk.drew1
    have Z6 := own_drew e6
    have Z8 := own_drew e8
    have hb := hb.drew
    unfold putS put2R put6R at Z6 Z8 hk hb
    try dsimp only [zeroY] at Z6 Z8 hk hb
    have HZ6 := Lib.hid Z6
    have HZ8 := Lib.hid Z8
    have HV := Lib.hid hk
    have HT := Lib.hid hb
    clear Z6 Z8 hk hb e6 e8 y0 y1 y2 y3 y4 y5 f0 f1 f2 f3 f4 f5 s0 s1 g0 g1 r0 r1 h0
    refine hK _ _ ?_
    go_wp2
    refine bodyPost_ret (results_ctc rfl _ _ W.heap.size _ _ (0, 0) _ (W.heap.size + 1) _ _ (0, 0) _ rfl HZ6.out Try.underlying27 rfl val_size rfl HZ8.out Try.underlying29 rfl verd_size) rfl ?_
    exact ⟨_, rfl, HV.out, HT.out⟩

end Go.Proofs.Ytaklbbkjhbkieaa

namespace Go.Proofs.Ytaklbbkjhbkieaa
open Go.RowKit
set_option linter.unusedVariables false

set_option maxHeartbeats 16000000 in
set_option maxRecDepth 100000 in
theorem rSome_t (s : ByteArray) (d : Nat) (hs : s.size ≤ 50000) (hd : 1 ≤ d) (hd2 : d ≤ 1000) (k0 : Nat) (hk0 : blankR s.data.toList 0 = k0) (hlt : k0 < s.size) (pv : Tree) (pb : Bool) (pp : Nat) (pf : Int) (hpp : pp ≤ s.size) 
    (HSM0 : ∀ w, Calls Try.prog 17 #[.string s, .int .i64 k0, .int .i64 d, .bool false] w fun e w' => PartP w ⟨pv, pb, pp, 10⟩ e w')  (W : World) (R : Tree × Bool × Int × Nat) (hR : R = (pv, pb, 0, s.size)) :
    Calls Try.prog 12 #[.string s, .int .i64 d, .bool false] W fun e w' => SomeEnd W R e w' := by
  subst hR
  have HK := Lib.hid (fun w => rblank_at s hs 0 k0 0 rfl (Nat.zero_le _) hk0 w)
  have HSM := Lib.hid HSM0
  clear hk0 HSM0
  go_enter Try.func12, Try.ntmps12
  go_upto_region 10 with (first
    | (go_at_call 16
       go_must (
         refine (HK.out _).mono ?_
         rintro e wB ⟨rfl, hwB⟩
         have S0 : SmX W wB s.size 0 zeroY zeroT 0 := by
           rw [← hwB]
           have b1 := below1 W (.cells zero6 27)
           have b2 := b1.alloc b1.size (.cells #[.int .i64 0, .int .i64 0] 29)
           have b3 := b2.alloc b2.size (.cells #[.int .i64 0, .int .i64 s.size] 29)
           have p2 := Own.fresh (W.alloc (.cells zero6 27)) 29 #[.int .i64 0, .int .i64 0]
           have p3 := Own.fresh ((W.alloc (.cells zero6 27)).alloc (.cells #[.int .i64 0, .int .i64 0] 29)) 29 #[.int .i64 0, .int .i64 s.size]
           simp at p2 p3
           exact ⟨((Own.fresh W 27 zero6).over _).over _, p2.over _, p3, b3, fun u _ => leaf_is u 0 0 0 [], Nat.zero_le _⟩
         clear hwB
         have HS0 := Lib.hid S0
         clear S0))
    | (go_at_call 17
       go_must (
         refine (HSM.out _).mono ?_
         rintro e w3 ⟨x, rfl, hk3, hb3⟩
         have S0 := HS0.out
         have hin := S0.o9.inside
         have b4 := below1 w3 (.cells #[.int .i64 x.kd, .int .i64 x.fr, .int .i64 x.to, .string ⟨x.tx.toArray⟩, .slice x.A x.n x.c, .slice x.B x.m x.d, .bool pb, .int .i64 pp, .int .i64 10] 44)
         have SP : SmX W (w3.alloc (.cells #[.int .i64 x.kd, .int .i64 x.fr, .int .i64 x.to, .string ⟨x.tx.toArray⟩, .slice x.A x.n x.c, .slice x.B x.m x.d, .bool pb, .int .i64 pp, .int .i64 10] 44)) s.size 0 x pv w3.heap.size :=
           ⟨(S0.o6.stay hb3 S0.o6.inside).over _, (S0.o8.stay hb3 S0.o8.inside).over _, (S0.o9.stay hb3 S0.o9.inside).over _, (S0.bel.trans (hb3.mono S0.bel.size)).trans (b4.mono (Nat.le_trans S0.bel.size hb3.size)),
            fun u hu => hk3 u (fun b h1 h2 => (hu b (by omega) h2).trans (b4.block b h2)), b4.size⟩
         have OP := Own.fresh w3 44 #[.int .i64 x.kd, .int .i64 x.fr, .int .i64 x.to, .string ⟨x.tx.toArray⟩, .slice x.A x.n x.c, .slice x.B x.m x.d, .bool pb, .int .i64 pp, .int .i64 10]
         have hq : W.heap.size + 3 ≤ w3.heap.size := Nat.le_trans hin hb3.size
         clear S0 hin b4 hk3 hb3)))
  change Code.wp _ _ _ _ (w3.alloc (.cells #[.int .i64 x.kd, .int .i64 x.fr, .int .i64 x.to, .string ⟨x.tx.toArray⟩, .slice x.A x.n x.c, .slice x.B x.m x.d, .bool pb, .int .i64 pp, .int .i64 10] 44))
  generalize w3.alloc (.cells #[.int .i64 x.kd, .int .i64 x.fr, .int .i64 x.to, .string ⟨x.tx.toArray⟩, .slice x.A x.n x.c, .slice x.B x.m x.d, .bool pb, .int .i64 pp, .int .i64 10] 44) = wP at SP OP ⊢
  generalize w3.heap.size = q at SP OP hq ⊢
  have S := SP
  clear SP HS0 HK HSM
  have q0 := OP.at 0
  have q1 := OP.at 1
  have q2 := OP.at 2
  have q3 := OP.at 3
  have q4 := OP.at 4
  have q5 := OP.at 5
  have q6 := OP.at 6
  have q7 := OP.at 7
  have q8 := OP.at 8
  simp at q0 q1 q2 q3 q4 q5 q6 q7 q8
  have n1 : ¬ q = W.heap.size := by omega
  have n2 : ¬ q = W.heap.size + 1 := by omega
  have n3 : ¬ q = W.heap.size + 2 := by omega
  have n4 : ¬ W.heap.size = q := by omega
  have n5 : ¬ W.heap.size + 1 = q := by omega
  have n6 : ¬ W.heap.size + 2 = q := by omega
  have y0 := S.o6.at 0
  have y1 := S.o6.at 1
  have y2 := S.o6.at 2
  have y3 := S.o6.at 3
  have y4 := S.o6.at 4
  have y5 := S.o6.at 5
  simp [zero6] at y0 y1 y2 y3 y4 y5
  have f0 := S.o6.free 0
  have f1 := S.o6.free 1
  have f2 := S.o6.free 2
  have f3 := S.o6.free 3
  have f4 := S.o6.free 4
  have f5 := S.o6.free 5
  have s0 := S.o8.at 0
  have s1 := S.o8.at 1
  simp at s0 s1
  have g0 := S.o8.free 0
  have g1 := S.o8.free 1
  have r0 := S.o9.at 0
  have r1 := S.o9.at 1
  simp at r0 r1
  have h0 := S.o9.free 0
  go_upto_region 11 with fail
  go_region
  all_goals
    rename_i hK
    obtain ⟨e6, e8, hk, hb⟩ := S.done 0 s.size
    have hk := hk.drew1
    have Z6 := own_drew e6
    have Z8 := own_drew e8
    have hb := hb.drew
    unfold putS put2R put6R at Z6 Z8 hk hb
    try dsimp only [zeroY] at Z6 Z8 hk hb
    have HZ6 := Lib.hid Z6
    have HZ8 := Lib.hid Z8
    have HV := Lib.hid hk
    have HT := Lib.hid hb
    clear Z6 Z8 hk hb e6 e8 y0 y1 y2 y3 y4 y5 f0 f1 f2 f3 f4 f5 s0 s1 g0 g1 r0 r1 h0 q0 q1 q2 q3 q4 q5 q6 q7 q8 n1 n2 n3 n4 n5 n6
    refine hK _ _ ?_
    go_wp2
    refine bodyPost_ret (results_ctc rfl _ _ W.heap.size _ _ (0, 0) _ (W.heap.size + 1) _ _ (0, 0) _ rfl HZ6.out Try.underlying27 rfl val_size rfl HZ8.out Try.underlying29 rfl verd_size) rfl ?_
    exact ⟨_, rfl, HV.out, HT.out⟩

set_option maxHeartbeats 16000000 in
set_option maxRecDepth 100000 in
theorem rSome_f (s : ByteArray) (d : Nat) (hs : s.size ≤ 50000) (hd : 1 ≤ d) (hd2 : d ≤ 1000) (k0 : Nat) (hk0 : blankR s.data.toList 0 = k0) (hlt : k0 < s.size) (pv : Tree) (pb : Bool) (pp : Nat) (pf : Int) (hpp : pp ≤ s.size) (cl : Bool)
    (HSM0 : ∀ w, Calls Try.prog 17 #[.string s, .int .i64 k0, .int .i64 d, .bool cl] w fun e w' => PartP w ⟨pv, pb, pp, pf⟩ e w') (h0 : (pf != 0) = true) (h1 : (pf == 10) = false) (W : World) (R : Tree × Bool × Int × Nat) (hR : R = (pv, pb, pf, pp)) :
    Calls Try.prog 12 #[.string s, .int .i64 d, .bool cl] W fun e w' => SomeEnd W R e w' := by
  subst hR
  have HK := Lib.hid (fun w => rblank_at s hs 0 k0 0 rfl (Nat.zero_le _) hk0 w)
  have HSM := Lib.hid HSM0
  clear hk0 HSM0
  go_enter Try.func12, Try.ntmps12
  go_upto_region 10 with (first
    | (go_at_call 16
       go_must (
         refine (HK.out _).mono ?_
         rintro e wB ⟨rfl, hwB⟩
         have S0 : SmX W wB s.size 0 zeroY zeroT 0 := by
           rw [← hwB]
           have b1 := below1 W (.cells zero6 27)
           have b2 := b1.alloc b1.size (.cells #[.int .i64 0, .int .i64 0] 29)
           have b3 := b2.alloc b2.size (.cells #[.int .i64 0, .int .i64 s.size] 29)
           have p2 := Own.fresh (W.alloc (.cells zero6 27)) 29 #[.int .i64 0, .int .i64 0]
           have p3 := Own.fresh ((W.alloc (.cells zero6 27)).alloc (.cells #[.int .i64 0, .int .i64 0] 29)) 29 #[.int .i64 0, .int .i64 s.size]
           simp at p2 p3
           exact ⟨((Own.fresh W 27 zero6).over _).over _, p2.over _, p3, b3, fun u _ => leaf_is u 0 0 0 [], Nat.zero_le _⟩
         clear hwB
         have HS0 := Lib.hid S0
         clear S0))
    | (go_at_call 17
       go_must (
         refine (HSM.out _).mono ?_
         rintro e w3 ⟨x, rfl, hk3, hb3⟩
         have S0 := HS0.out
         have hin := S0.o9.inside
         have b4 := below1 w3 (.cells #[.int .i64 x.kd, .int .i64 x.fr, .int .i64 x.to, .string ⟨x.tx.toArray⟩, .slice x.A x.n x.c, .slice x.B x.m x.d, .bool pb, .int .i64 pp, .int .i64 pf] 44)
         have SP : SmX W (w3.alloc (.cells #[.int .i64 x.kd, .int .i64 x.fr, .int .i64 x.to, .string ⟨x.tx.toArray⟩, .slice x.A x.n x.c, .slice x.B x.m x.d, .bool pb, .int .i64 pp, .int .i64 pf] 44)) s.size 0 x pv w3.heap.size :=
           ⟨(S0.o6.stay hb3 S0.o6.inside).over _, (S0.o8.stay hb3 S0.o8.inside).over _, (S0.o9.stay hb3 S0.o9.inside).over _, (S0.bel.trans (hb3.mono S0.bel.size)).trans (b4.mono (Nat.le_trans S0.bel.size hb3.size)),
            fun u hu => hk3 u (fun b h1 h2 => (hu b (by omega) h2).trans (b4.block b h2)), b4.size⟩
         have OP := Own.fresh w3 44 #[.int .i64 x.kd, .int .i64 x.fr, .int .i64 x.to, .string ⟨x.tx.toArray⟩, .slice x.A x.n x.c, .slice x.B x.m x.d, .bool pb, .int .i64 pp, .int .i64 pf]
         have hq : W.heap.size + 3 ≤ w3.heap.size := Nat.le_trans hin hb3.size
         clear S0 hin b4 hk3 hb3)))
  change Code.wp _ _ _ _ (w3.alloc (.cells #[.int .i64 x.kd, .int .i64 x.fr, .int .i64 x.to, .string ⟨x.tx.toArray⟩, .slice x.A x.n x.c, .slice x.B x.m x.d, .bool pb, .int .i64 pp, .int .i64 pf] 44))
  generalize w3.alloc (.cells #[.int .i64 x.kd, .int .i64 x.fr, .int .i64 x.to, .string ⟨x.tx.toArray⟩, .slice x.A x.n x.c, .slice x.B x.m x.d, .bool pb, .int .i64 pp, .int .i64 pf] 44) = wP at SP OP ⊢
  generalize w3.heap.size = q at SP OP hq ⊢
  have S := SP
  clear SP HS0 HK HSM
  have q0 := OP.at 0
  have q1 := OP.at 1
  have q2 := OP.at 2
  have q3 := OP.at 3
  have q4 := OP.at 4
  have q5 := OP.at 5
  have q6 := OP.at 6
  have q7 := OP.at 7
  have q8 := OP.at 8
  simp at q0 q1 q2 q3 q4 q5 q6 q7 q8
  have n1 : ¬ q = W.heap.size := by omega
  have n2 : ¬ q = W.heap.size + 1 := by omega
  have n3 : ¬ q = W.heap.size + 2 := by omega
  have n4 : ¬ W.heap.size = q := by omega
  have n5 : ¬ W.heap.size + 1 = q := by omega
  have n6 : ¬ W.heap.size + 2 = q := by omega
  have y0 := S.o6.at 0
  have y1 := S.o6.at 1
  have y2 := S.o6.at 2
  have y3 := S.o6.at 3
  have y4 := S.o6.at 4
  have y5 := S.o6.at 5
  simp [zero6] at y0 y1 y2 y3 y4 y5
  have f0 := S.o6.free 0
  have f1 := S.o6.free 1
  have f2 := S.o6.free 2
  have f3 := S.o6.free 3
  have f4 := S.o6.free 4
  have f5 := S.o6.free 5
  have s0 := S.o8.at 0
  have s1 := S.o8.at 1
  simp at s0 s1
  have g0 := S.o8.free 0
  have g1 := S.o8.free 1
  have r0 := S.o9.at 0
  have r1 := S.o9.at 1
  simp at r0 r1
  have h0 := S.o9.free 0
  go_upto_region 13 with fail
  go_region
  all_goals
    rename_i hK
    obtain ⟨e6, e8, hk, hb⟩ := S.done pf pp
    have hk := hk.drew1
    have Z6 := own_drew e6
    have Z8 := own_drew e8
    have hb := hb.drew
    unfold putS put2R put6R at Z6 Z8 hk hb
    try dsimp only [zeroY] at Z6 Z8 hk hb
    have HZ6 := Lib.hid Z6
    have HZ8 := Lib.hid Z8
    have HV := Lib.hid hk
    have HT := Lib.hid hb
    clear Z6 Z8 hk hb e6 e8 y0 y1 y2 y3 y4 y5 f0 f1 f2 f3 f4 f5 s0 s1 g0 g1 r0 r1 h0 q0 q1 q2 q3 q4 q5 q6 q7 q8 n1 n2 n3 n4 n5 n6
    refine hK _ _ ?_
    go_wp2
    refine bodyPost_ret (results_ctc rfl _ _ W.heap.size _ _ (0, 0) _ (W.heap.size + 1) _ _ (0, 0) _ rfl HZ6.out Try.underlying27 rfl val_size rfl HZ8.out Try.underlying29 rfl verd_size) rfl ?_
    exact ⟨_, rfl, HV.out, HT.out⟩

set_option maxHeartbeats 16000000 in
set_option maxRecDepth 100000 in
theorem rSome_g (s : ByteArray) (d : Nat) (hs : s.size ≤ 50000) (hd : 1 ≤ d) (hd2 : d ≤ 1000) (k0 : Nat) (hk0 : blankR s.data.toList 0 = k0) (hlt : k0 < s.size) (pv : Tree) (pb : Bool) (pp : Nat) (pf : Int) (hpp : pp ≤ s.size) 
    (HSM0 : ∀ w, Calls Try.prog 17 #[.string s, .int .i64 k0, .int .i64 d, .bool true] w fun e w' => PartP w ⟨pv, pb, pp, 10⟩ e w')  (W : World) (R : Tree × Bool × Int × Nat) (hR : R = (pv, pb, 10, pp)) :
    Calls Try.prog 12 #[.string s, .int .i64 d, .bool true] W fun e w' => SomeEnd W R e w' := by
  subst hR
  have HK := Lib.hid (fun w => rblank_at s hs 0 k0 0 rfl (Nat.zero_le _) hk0 w)
  have HSM := Lib.hid HSM0
  clear hk0 HSM0
  go_enter Try.func12, Try.ntmps12
  go_upto_region 10 with (first
    | (go_at_call 16
       go_must (
         refine (HK.out _).mono ?_
         rintro e wB ⟨rfl, hwB⟩
         have S0 : SmX W wB s.size 0 zeroY zeroT 0 := by
           rw [← hwB]
           have b1 := below1 W (.cells zero6 27)
           have b2 := b1.alloc b1.size (.cells #[.int .i64 0, .int .i64 0] 29)
           have b3 := b2.alloc b2.size (.cells #[.int .i64 0, .int .i64 s.size] 29)
           have p2 := Own.fresh (W.alloc (.cells zero6 27)) 29 #[.int .i64 0, .int .i64 0]
           have p3 := Own.fresh ((W.alloc (.cells zero6 27)).alloc (.cells #[.int .i64 0, .int .i64 0] 29)) 29 #[.int .i64 0, .int .i64 s.size]
           simp at p2 p3
           exact ⟨((Own.fresh W 27 zero6).over _).over _, p2.over _, p3, b3, fun u _ => leaf_is u 0 0 0 [], Nat.zero_le _⟩
         clear hwB
         have HS0 := Lib.hid S0
         clear S0))
    | (go_at_call 17
       go_must (
         refine (HSM.out _).mono ?_
         rintro e w3 ⟨x, rfl, hk3, hb3⟩
         have S0 := HS0.out
         have hin := S0.o9.inside
         have b4 := below1 w3 (.cells #[.int .i64 x.kd, .int .i64 x.fr, .int .i64 x.to, .string ⟨x.tx.toArray⟩, .slice x.A x.n x.c, .slice x.B x.m x.d, .bool pb, .int .i64 pp, .int .i64 10] 44)
         have SP : SmX W (w3.alloc (.cells #[.int .i64 x.kd, .int .i64 x.fr, .int .i64 x.to, .string ⟨x.tx.toArray⟩, .slice x.A x.n x.c, .slice x.B x.m x.d, .bool pb, .int .i64 pp, .int .i64 10] 44)) s.size 0 x pv w3.heap.size :=
           ⟨(S0.o6.stay hb3 S0.o6.inside).over _, (S0.o8.stay hb3 S0.o8.inside).over _, (S0.o9.stay hb3 S0.o9.inside).over _, (S0.bel.trans (hb3.mono S0.bel.size)).trans (b4.mono (Nat.le_trans S0.bel.size hb3.size)),
            fun u hu => hk3 u (fun b h1 h2 => (hu b (by omega) h2).trans (b4.block b h2)), b4.size⟩
         have OP := Own.fresh w3 44 #[.int .i64 x.kd, .int .i64 x.fr, .int .i64 x.to, .string ⟨x.tx.toArray⟩, .slice x.A x.n x.c, .slice x.B x.m x.d, .bool pb, .int .i64 pp, .int .i64 10]
         have hq : W.heap.size + 3 ≤ w3.heap.size := Nat.le_trans hin hb3.size
         clear S0 hin b4 hk3 hb3)))
  change Code.wp _ _ _ _ (w3.alloc (.cells #[.int .i64 x.kd, .int .i64 x.fr, .int .i64 x.to, .string ⟨x.tx.toArray⟩, .slice x.A x.n x.c, .slice x.B x.m x.d, .bool pb, .int .i64 pp, .int .i64 10] 44))
  generalize w3.alloc (.cells #[.int .i64 x.kd, .int .i64 x.fr, .int .i64 x.to, .string ⟨x.tx.toArray⟩, .slice x.A x.n x.c, .slice x.B x.m x.d, .bool pb, .int .i64 pp, .int .i64 10] 44) = wP at SP OP ⊢
  generalize w3.heap.size = q at SP OP hq ⊢
  have S := SP
  clear SP HS0 HK HSM
  have q0 := OP.at 0
  have q1 := OP.at 1
  have q2 := OP.at 2
  have q3 := OP.at 3
  have q4 := OP.at 4
  have q5 := OP.at 5
  have q6 := OP.at 6
  have q7 := OP.at 7
  have q8 := OP.at 8
  simp at q0 q1 q2 q3 q4 q5 q6 q7 q8
  have n1 : ¬ q = W.heap.size := by omega
  have n2 : ¬ q = W.heap.size + 1 := by omega
  have n3 : ¬ q = W.heap.size + 2 := by omega
  have n4 : ¬ W.heap.size = q := by omega
  have n5 : ¬ W.heap.size + 1 = q := by omega
  have n6 : ¬ W.heap.size + 2 = q := by omega
  have y0 := S.o6.at 0
  have y1 := S.o6.at 1
  have y2 := S.o6.at 2
  have y3 := S.o6.at 3
  have y4 := S.o6.at 4
  have y5 := S.o6.at 5
  simp [zero6] at y0 y1 y2 y3 y4 y5
  have f0 := S.o6.free 0
  have f1 := S.o6.free 1
  have f2 := S.o6.free 2
  have f3 := S.o6.free 3
  have f4 := S.o6.free 4
  have f5 := S.o6.free 5
  have s0 := S.o8.at 0
  have s1 := S.o8.at 1
  simp at s0 s1
  have g0 := S.o8.free 0
  have g1 := S.o8.free 1
  have r0 := S.o9.at 0
  have r1 := S.o9.at 1
  simp at r0 r1
  have h0 := S.o9.free 0
  go_upto_region 13 with fail
  go_region
  all_goals
    rename_i hK
    obtain ⟨e6, e8, hk, hb⟩ := S.done 10 pp
    have hk := hk.drew1
    have Z6 := own_drew e6
    have Z8 := own_drew e8
    have hb := hb.drew
    unfold putS put2R put6R at Z6 Z8 hk hb
    try dsimp only [zeroY] at Z6 Z8 hk hb
    have HZ6 := Lib.hid Z6
    have HZ8 := Lib.hid Z8
    have HV := Lib.hid hk
    have HT := Lib.hid hb
    clear Z6 Z8 hk hb e6 e8 y0 y1 y2 y3 y4 y5 f0 f1 f2 f3 f4 f5 s0 s1 g0 g1 r0 r1 h0 q0 q1 q2 q3 q4 q5 q6 q7 q8 n1 n2 n3 n4 n5 n6
    refine hK _ _ ?_
    go_wp2
    refine bodyPost_ret (results_ctc rfl _ _ W.heap.size _ _ (0, 0) _ (W.heap.size + 1) _ _ (0, 0) _ rfl HZ6.out Try.underlying27 rfl val_size rfl HZ8.out Try.underlying29 rfl verd_size) rfl ?_
    exact ⟨_, rfl, HV.out, HT.out⟩

end Go.Proofs.Ytaklbbkjhbkieaa

namespace Go.Proofs.Ytaklbbkjhbkieaa
open Go.RowKit
set_option linter.unusedVariables false

set_option maxHeartbeats 16000000 in
set_option maxRecDepth 100000 in
theorem rSome_r (s : ByteArray) (d : Nat) (hs : s.size ≤ 50000) (hd : 1 ≤ d) (hd2 : d ≤ 1000) (k0 : Nat) (hk0 : blankR s.data.toList 0 = k0) (hlt : k0 < s.size) (pv : Tree) (pb : Bool) (pp : Nat) (pf : Int) (hpp : pp ≤ s.size) (cl : Bool)
    (HSM0 : ∀ w, Calls Try.prog 17 #[.string s, .int .i64 k0, .int .i64 d, .bool cl] w fun e w' => PartP w ⟨pv, true, pp, 0⟩ e w') (k1 : Nat) (hk1 : blankR s.data.toList pp = k1) (hl1 : k1 < s.size) (W : World) (R : Tree × Bool × Int × Nat) (hR : R = (pv, true, 9, k1)) :
    Calls Try.prog 12 #[.string s, .int .i64 d, .bool cl] W fun e w' => SomeEnd W R e w' := by
  subst hR
  have HK := Lib.hid (fun w => rblank_at s hs 0 k0 0 rfl (Nat.zero_le _) hk0 w)
  have HSM := Lib.hid HSM0
  clear hk0 HSM0
  have HK1 := Lib.hid (fun w => rblank_at s hs pp k1 pp rfl hpp hk1 w)
  clear hk1
  go_enter Try.func12, Try.ntmps12
  go_upto_region 10 with (first
    | (go_at_call 16
       go_must (
         refine (HK.out _).mono ?_
         rintro e wB ⟨rfl, hwB⟩
         have S0 : SmX W wB s.size 0 zeroY zeroT 0 := by
           rw [← hwB]
           have b1 := below1 W (.cells zero6 27)
           have b2 := b1.alloc b1.size (.cells #[.int .i64 0, .int .i64 0] 29)
           have b3 := b2.alloc b2.size (.cells #[.int .i64 0, .int .i64 s.size] 29)
           have p2 := Own.fresh (W.alloc (.cells zero6 27)) 29 #[.int .i64 0, .int .i64 0]
           have p3 := Own.fresh ((W.alloc (.cells zero6 27)).alloc (.cells #[.int .i64 0, .int .i64 0] 29)) 29 #[.int .i64 0, .int .i64 s.size]
           simp at p2 p3
           exact ⟨((Own.fresh W 27 zero6).over _).over _, p2.over _, p3, b3, fun u _ => leaf_is u 0 0 0 [], Nat.zero_le _⟩
         clear hwB
         have HS0 := Lib.hid S0
         clear S0))
    | (go_at_call 17
       go_must (
         refine (HSM.out _).mono ?_
         rintro e w3 ⟨x, rfl, hk3, hb3⟩
         have S0 := HS0.out
         have hin := S0.o9.inside
         have b4 := below1 w3 (.cells #[.int .i64 x.kd, .int .i64 x.fr, .int .i64 x.to, .string ⟨x.tx.toArray⟩, .slice x.A x.n x.c, .slice x.B x.m x.d, .bool true, .int .i64 pp, .int .i64 0] 44)
         have SP : SmX W (w3.alloc (.cells #[.int .i64 x.kd, .int .i64 x.fr, .int .i64 x.to, .string ⟨x.tx.toArray⟩, .slice x.A x.n x.c, .slice x.B x.m x.d, .bool true, .int .i64 pp, .int .i64 0] 44)) s.size 0 x pv w3.heap.size :=
           ⟨(S0.o6.stay hb3 S0.o6.inside).over _, (S0.o8.stay hb3 S0.o8.inside).over _, (S0.o9.stay hb3 S0.o9.inside).over _, (S0.bel.trans (hb3.mono S0.bel.size)).trans (b4.mono (Nat.le_trans S0.bel.size hb3.size)),
            fun u hu => hk3 u (fun b h1 h2 => (hu b (by omega) h2).trans (b4.block b h2)), b4.size⟩
         have OP := Own.fresh w3 44 #[.int .i64 x.kd, .int .i64 x.fr, .int .i64 x.to, .string ⟨x.tx.toArray⟩, .slice x.A x.n x.c, .slice x.B x.m x.d, .bool true, .int .i64 pp, .int .i64 0]
         have hq : W.heap.size + 3 ≤ w3.heap.size := Nat.le_trans hin hb3.size
         clear S0 hin b4 hk3 hb3)))
  change Code.wp _ _ _ _ (w3.alloc (.cells #[.int .i64 x.kd, .int .i64 x.fr, .int .i64 x.to, .string ⟨x.tx.toArray⟩, .slice x.A x.n x.c, .slice x.B x.m x.d, .bool true, .int .i64 pp, .int .i64 0] 44))
  generalize w3.alloc (.cells #[.int .i64 x.kd, .int .i64 x.fr, .int .i64 x.to, .string ⟨x.tx.toArray⟩, .slice x.A x.n x.c, .slice x.B x.m x.d, .bool true, .int .i64 pp, .int .i64 0] 44) = wP at SP OP ⊢
  generalize w3.heap.size = q at SP OP hq ⊢
  have S := SP
  clear SP HS0 HK HSM
  have q0 := OP.at 0
  have q1 := OP.at 1
  have q2 := OP.at 2
  have q3 := OP.at 3
  have q4 := OP.at 4
  have q5 := OP.at 5
  have q6 := OP.at 6
  have q7 := OP.at 7
  have q8 := OP.at 8
  simp at q0 q1 q2 q3 q4 q5 q6 q7 q8
  have n1 : ¬ q = W.heap.size := by omega
  have n2 : ¬ q = W.heap.size + 1 := by omega
  have n3 : ¬ q = W.heap.size + 2 := by omega
  have n4 : ¬ W.heap.size = q := by omega
  have n5 : ¬ W.heap.size + 1 = q := by omega
  have n6 : ¬ W.heap.size + 2 = q := by omega
  have y0 := S.o6.at 0
  have y1 := S.o6.at 1
  have y2 := S.o6.at 2
  have y3 := S.o6.at 3
  have y4 := S.o6.at 4
  have y5 := S.o6.at 5
  simp [zero6] at y0 y1 y2 y3 y4 y5
  have f0 := S.o6.free 0
  have f1 := S.o6.free 1
  have f2 := S.o6.free 2
  have f3 := S.o6.free 3
  have f4 := S.o6.free 4
  have f5 := S.o6.free 5
  have s0 := S.o8.at 0
  have s1 := S.o8.at 1
  simp at s0 s1
  have g0 := S.o8.free 0
  have g1 := S.o8.free 1
  have r0 := S.o9.at 0
  have r1 := S.o9.at 1
  simp at r0 r1
  have h0 := S.o9.free 0
  go_upto_region 16 with (go_at_call 16; refine (HK1.out _).mono ?_; rintro e w' ⟨rfl, rfl⟩)
  obtain ⟨e6, e8, hk, hb⟩ := S.done 9 k1
  unfold putS put2R put6R at e6 e8 hk hb
  have HZ6 := Lib.hid e6
  have HZ8 := Lib.hid e8
  have HV := Lib.hid hk
  have HT := Lib.hid hb
  clear e6 e8 hk hb
  go_wp2
  refine bodyPost_ret (results_ctc rfl _ _ W.heap.size _ _ (0, 0) _ (W.heap.size + 1) _ _ (0, 0) _ rfl HZ6.out Try.underlying27 rfl val_size rfl HZ8.out Try.underlying29 rfl verd_size) rfl ?_
  exact ⟨_, rfl, HV.out, HT.out⟩

set_option maxHeartbeats 16000000 in
set_option maxRecDepth 100000 in
theorem rSome_a (s : ByteArray) (d : Nat) (hs : s.size ≤ 50000) (hd : 1 ≤ d) (hd2 : d ≤ 1000) (k0 : Nat) (hk0 : blankR s.data.toList 0 = k0) (hlt : k0 < s.size) (pv : Tree) (pb : Bool) (pp : Nat) (pf : Int) (hpp : pp ≤ s.size) 
    (HSM0 : ∀ w, Calls Try.prog 17 #[.string s, .int .i64 k0, .int .i64 d, .bool false] w fun e w' => PartP w ⟨pv, true, pp, 0⟩ e w') (k1 : Nat) (hk1 : blankR s.data.toList pp = k1) (hl1 : s.size ≤ k1) (W : World) (R : Tree × Bool × Int × Nat) (hR : R = (pv, true, 0, s.size)) :
    Calls Try.prog 12 #[.string s, .int .i64 d, .bool false] W fun e w' => SomeEnd W R e w' := by
  subst hR
  have HK := Lib.hid (fun w => rblank_at s hs 0 k0 0 rfl (Nat.zero_le _) hk0 w)
  have HSM := Lib.hid HSM0
  clear hk0 HSM0
  have HK1 := Lib.hid (fun w => rblank_at s hs pp k1 pp rfl hpp hk1 w)
  clear hk1
  go_enter Try.func12, Try.ntmps12
  go_upto_region 10 with (first
    | (go_at_call 16
       go_must (
         refine (HK.out _).mono ?_
         rintro e wB ⟨rfl, hwB⟩
         have S0 : SmX W wB s.size 0 zeroY zeroT 0 := by
           rw [← hwB]
           have b1 := below1 W (.cells zero6 27)
           have b2 := b1.alloc b1.size (.cells #[.int .i64 0, .int .i64 0] 29)
           have b3 := b2.alloc b2.size (.cells #[.int .i64 0, .int .i64 s.size] 29)
           have p2 := Own.fresh (W.alloc (.cells zero6 27)) 29 #[.int .i64 0, .int .i64 0]
           have p3 := Own.fresh ((W.alloc (.cells zero6 27)).alloc (.cells #[.int .i64 0, .int .i64 0] 29)) 29 #[.int .i64 0, .int .i64 s.size]
           simp at p2 p3
           exact ⟨((Own.fresh W 27 zero6).over _).over _, p2.over _, p3, b3, fun u _ => leaf_is u 0 0 0 [], Nat.zero_le _⟩
         clear hwB
         have HS0 := Lib.hid S0
         clear S0))
    | (go_at_call 17
       go_must (
         refine (HSM.out _).mono ?_
         rintro e w3 ⟨x, rfl, hk3, hb3⟩
         have S0 := HS0.out
         have hin := S0.o9.inside
         have b4 := below1 w3 (.cells #[.int .i64 x.kd, .int .i64 x.fr, .int .i64 x.to, .string ⟨x.tx.toArray⟩, .slice x.A x.n x.c, .slice x.B x.m x.d, .bool true, .int .i64 pp, .int .i64 0] 44)
         have SP : SmX W (w3.alloc (.cells #[.int .i64 x.kd, .int .i64 x.fr, .int .i64 x.to, .string ⟨x.tx.toArray⟩, .slice x.A x.n x.c, .slice x.B x.m x.d, .bool true, .int .i64 pp, .int .i64 0] 44)) s.size 0 x pv w3.heap.size :=
           ⟨(S0.o6.stay hb3 S0.o6.inside).over _, (S0.o8.stay hb3 S0.o8.inside).over _, (S0.o9.stay hb3 S0.o9.inside).over _, (S0.bel.trans (hb3.mono S0.bel.size)).trans (b4.mono (Nat.le_trans S0.bel.size hb3.size)),
            fun u hu => hk3 u (fun b h1 h2 => (hu b (by omega) h2).trans (b4.block b h2)), b4.size⟩
         have OP := Own.fresh w3 44 #[.int .i64 x.kd, .int .i64 x.fr, .int .i64 x.to, .string ⟨x.tx.toArray⟩, .slice x.A x.n x.c, .slice x.B x.m x.d, .bool true, .int .i64 pp, .int .i64 0]
         have hq : W.heap.size + 3 ≤ w3.heap.size := Nat.le_trans hin hb3.size
         clear S0 hin b4 hk3 hb3)))
  change Code.wp _ _ _ _ (w3.alloc (.cells #[.int .i64 x.kd, .int .i64 x.fr, .int .i64 x.to, .string ⟨x.tx.toArray⟩, .slice x.A x.n x.c, .slice x.B x.m x.d, .bool true, .int .i64 pp, .int .i64 0] 44))
  generalize w3.alloc (.cells #[.int .i64 x.kd, .int .i64 x.fr, .int .i64 x.to, .string ⟨x.tx.toArray⟩, .slice x.A x.n x.c, .slice x.B x.m x.d, .bool true, .int .i64 pp, .int .i64 0] 44) = wP at SP OP ⊢
  generalize w3.heap.size = q at SP OP hq ⊢
  have S := SP
  clear SP HS0 HK HSM
  have q0 := OP.at 0
  have q1 := OP.at 1
  have q2 := OP.at 2
  have q3 := OP.at 3
  have q4 := OP.at 4
  have q5 := OP.at 5
  have q6 := OP.at 6
  have q7 := OP.at 7
  have q8 := OP.at 8
  simp at q0 q1 q2 q3 q4 q5 q6 q7 q8
  have n1 : ¬ q = W.heap.size := by omega
  have n2 : ¬ q = W.heap.size + 1 := by omega
  have n3 : ¬ q = W.heap.size + 2 := by omega
  have n4 : ¬ W.heap.size = q := by omega
  have n5 : ¬ W.heap.size + 1 = q := by omega
  have n6 : ¬ W.heap.size + 2 = q := by omega
  have y0 := S.o6.at 0
  have y1 := S.o6.at 1
  have y2 := S.o6.at 2
  have y3 := S.o6.at 3
  have y4 := S.o6.at 4
  have y5 := S.o6.at 5
  simp [zero6] at y0 y1 y2 y3 y4 y5
  have f0 := S.o6.free 0
  have f1 := S.o6.free 1
  have f2 := S.o6.free 2
  have f3 := S.o6.free 3
  have f4 := S.o6.free 4
  have f5 := S.o6.free 5
  have s0 := S.o8.at 0
  have s1 := S.o8.at 1
  simp at s0 s1
  have g0 := S.o8.free 0
  have g1 := S.o8.free 1
  have r0 := S.o9.at 0
  have r1 := S.o9.at 1
  simp at r0 r1
  have h0 := S.o9.free 0
  go_upto_region 19 with (go_at_call 16; refine (HK1.out _).mono ?_; rintro e w' ⟨rfl, rfl⟩)
  go_region
  all_goals
    rename_i hK
    obtain ⟨e6, e8, hk, hb⟩ := S.done 0 s.size
    have hk := hk.drew1
    have Z6 := own_drew e6
    have Z8 := own_drew e8
    have hb := hb.drew
    unfold putS put2R put6R at Z6 Z8 hk hb
    try dsimp only [zeroY] at Z6 Z8 hk hb
    have HZ6 := Lib.hid Z6
    have HZ8 := Lib.hid Z8
    have HV := Lib.hid hk
    have HT := Lib.hid hb
    clear Z6 Z8 hk hb e6 e8 y0 y1 y2 y3 y4 y5 f0 f1 f2 f3 f4 f5 s0 s1 g0 g1 r0 r1 h0 q0 q1 q2 q3 q4 q5 q6 q7 q8 n1 n2 n3 n4 n5 n6
    refine hK _ _ ?_
    go_wp2
    refine bodyPost_ret (results_ctc rfl _ _ W.heap.size _ _ (0, 0) _ (W.heap.size + 1) _ _ (0, 0) _ rfl HZ6.out Try.underlying27 rfl val_size rfl HZ8.out Try.underlying29 rfl verd_size) rfl ?_
    exact ⟨_, rfl, HV.out, HT.out⟩

set_option maxHeartbeats 16000000 in
set_option maxRecDepth 100000 in
theorem rSome_b (s : ByteArray) (d : Nat) (hs : s.size ≤ 50000) (hd : 1 ≤ d) (hd2 : d ≤ 1000) (k0 : Nat) (hk0 : blankR s.data.toList 0 = k0) (hlt : k0 < s.size) (pv : Tree) (pb : Bool) (pp : Nat) (pf : Int) (hpp : pp ≤ s.size) 
    (HSM0 : ∀ w, Calls Try.prog 17 #[.string s, .int .i64 k0, .int .i64 d, .bool true] w fun e w' => PartP w ⟨pv, true, pp, 0⟩ e w') (k1 : Nat) (hk1 : blankR s.data.toList pp = k1) (hl1 : s.size ≤ k1) (W : World) (R : Tree × Bool × Int × Nat) (hR : R = (pv, true, 1, s.size)) :
    Calls Try.prog 12 #[.string s, .int .i64 d, .bool true] W fun e w' => SomeEnd W R e w' := by
  subst hR
  have HK := Lib.hid (fun w => rblank_at s hs 0 k0 0 rfl (Nat.zero_le _) hk0 w)
  have HSM := Lib.hid HSM0
  clear hk0 HSM0
  have HK1 := Lib.hid (fun w => rblank_at s hs pp k1 pp rfl hpp hk1 w)
  clear hk1
  go_enter Try.func12, Try.ntmps12
  go_upto_region 10 with (first
    | (go_at_call 16
       go_must (
         refine (HK.out _).mono ?_
         rintro e wB ⟨rfl, hwB⟩
         have S0 : SmX W wB s.size 0 zeroY zeroT 0 := by
           rw [← hwB]
           have b1 := below1 W (.cells zero6 27)
           have b2 := b1.alloc b1.size (.cells #[.int .i64 0, .int .i64 0] 29)
           have b3 := b2.alloc b2.size (.cells #[.int .i64 0, .int .i64 s.size] 29)
           have p2 := Own.fresh (W.alloc (.cells zero6 27)) 29 #[.int .i64 0, .int .i64 0]
           have p3 := Own.fresh ((W.alloc (.cells zero6 27)).alloc (.cells #[.int .i64 0, .int .i64 0] 29)) 29 #[.int .i64 0, .int .i64 s.size]
           simp at p2 p3
           exact ⟨((Own.fresh W 27 zero6).over _).over _, p2.over _, p3, b3, fun u _ => leaf_is u 0 0 0 [], Nat.zero_le _⟩
         clear hwB
         have HS0 := Lib.hid S0
         clear S0))
    | (go_at_call 17
       go_must (
         refine (HSM.out _).mono ?_
         rintro e w3 ⟨x, rfl, hk3, hb3⟩
         have S0 := HS0.out
         have hin := S0.o9.inside
         have b4 := below1 w3 (.cells #[.int .i64 x.kd, .int .i64 x.fr, .int .i64 x.to, .string ⟨x.tx.toArray⟩, .slice x.A x.n x.c, .slice x.B x.m x.d, .bool true, .int .i64 pp, .int .i64 0] 44)
         have SP : SmX W (w3.alloc (.cells #[.int .i64 x.kd, .int .i64 x.fr, .int .i64 x.to, .string ⟨x.tx.toArray⟩, .slice x.A x.n x.c, .slice x.B x.m x.d, .bool true, .int .i64 pp, .int .i64 0] 44)) s.size 0 x pv w3.heap.size :=
           ⟨(S0.o6.stay hb3 S0.o6.inside).over _, (S0.o8.stay hb3 S0.o8.inside).over _, (S0.o9.stay hb3 S0.o9.inside).over _, (S0.bel.trans (hb3.mono S0.bel.size)).trans (b4.mono (Nat.le_trans S0.bel.size hb3.size)),
            fun u hu => hk3 u (fun b h1 h2 => (hu b (by omega) h2).trans (b4.block b h2)), b4.size⟩
         have OP := Own.fresh w3 44 #[.int .i64 x.kd, .int .i64 x.fr, .int .i64 x.to, .string ⟨x.tx.toArray⟩, .slice x.A x.n x.c, .slice x.B x.m x.d, .bool true, .int .i64 pp, .int .i64 0]
         have hq : W.heap.size + 3 ≤ w3.heap.size := Nat.le_trans hin hb3.size
         clear S0 hin b4 hk3 hb3)))
  change Code.wp _ _ _ _ (w3.alloc (.cells #[.int .i64 x.kd, .int .i64 x.fr, .int .i64 x.to, .string ⟨x.tx.toArray⟩, .slice x.A x.n x.c, .slice x.B x.m x.d, .bool true, .int .i64 pp, .int .i64 0] 44))
  generalize w3.alloc (.cells #[.int .i64 x.kd, .int .i64 x.fr, .int .i64 x.to, .string ⟨x.tx.toArray⟩, .slice x.A x.n x.c, .slice x.B x.m x.d, .bool true, .int .i64 pp, .int .i64 0] 44) = wP at SP OP ⊢
  generalize w3.heap.size = q at SP OP hq ⊢
  have S := SP
  clear SP HS0 HK HSM
  have h00 := S.o9.free 0
  have h01 := S.o9.at 0
  have k8 := OP.at 8
  have k7 := OP.at 7
  simp at h01 k8 k7
  go_upto_region 19 with (go_at_call 16; refine (HK1.out _).mono ?_; rintro e w' ⟨rfl, rfl⟩)
  have S1 : SmX W (wP.setCell ⟨W.heap.size + 2, 0, none⟩ (.int .i64 1)) s.size 1 x pv q :=
    ⟨S.o6.past (by show W.heap.size ≠ W.heap.size + 2; omega) _, S.o8.past (by show W.heap.size + 1 ≠ W.heap.size + 2; omega) _, by have := S.o9.put 0 (.int .i64 1); simpa using this, S.bel.setCell (by show W.heap.size ≤ W.heap.size + 2; omega) _,
     fun u hu => S.kept u (fun b h1 h2 => (hu b h1 h2).trans (Below.heap_setCell wP _ _ b (by show b ≠ W.heap.size + 2; omega))), by simpa [World.setCell] using S.top⟩
  have OP1 := OP.past (p := ⟨W.heap.size + 2, 0, none⟩) (by show q ≠ W.heap.size + 2; omega) (.int .i64 1)
  clear h00 h01 k7 k8
  generalize wP.setCell ⟨W.heap.size + 2, 0, none⟩ (.int .i64 1) = wQ at S1 OP1 ⊢
  clear S OP
  have S := S1
  have OP := OP1
  clear S1 OP1
  have q0 := OP.at 0
  have q1 := OP.at 1
  have q2 := OP.at 2
  have q3 := OP.at 3
  have q4 := OP.at 4
  have q5 := OP.at 5
  have q6 := OP.at 6
  have q7 := OP.at 7
  have q8 := OP.at 8
  simp at q0 q1 q2 q3 q4 q5 q6 q7 q8
  have n1 : ¬ q = W.heap.size := by omega
  have n2 : ¬ q = W.heap.size + 1 := by omega
  have n3 : ¬ q = W.heap.size + 2 := by omega
  have n4 : ¬ W.heap.size = q := by omega
  have n5 : ¬ W.heap.size + 1 = q := by omega
  have n6 : ¬ W.heap.size + 2 = q := by omega
  have y0 := S.o6.at 0
  have y1 := S.o6.at 1
  have y2 := S.o6.at 2
  have y3 := S.o6.at 3
  have y4 := S.o6.at 4
  have y5 := S.o6.at 5
  simp [zero6] at y0 y1 y2 y3 y4 y5
  have f0 := S.o6.free 0
  have f1 := S.o6.free 1
  have f2 := S.o6.free 2
  have f3 := S.o6.free 3
  have f4 := S.o6.free 4
  have f5 := S.o6.free 5
  have s0 := S.o8.at 0
  have s1 := S.o8.at 1
  simp at s0 s1
  have g0 := S.o8.free 0
  have g1 := S.o8.free 1
  have r0 := S.o9.at 0
  have r1 := S.o9.at 1
  simp at r0 r1
  have h0 := S.o9.free 0
  go_region
  all_goals
    rename_i hK
    obtain ⟨e6, e8, hk, hb⟩ := S.done 1 s.size
    have hk := hk.drew1
    have Z6 := own_drew e6
    have Z8 := own_drew e8
    have hb := hb.drew
    unfold putS put2R put6R at Z6 Z8 hk hb
    try dsimp only [zeroY] at Z6 Z8 hk hb
    have HZ6 := Lib.hid Z6
    have HZ8 := Lib.hid Z8
    have HV := Lib.hid hk
    have HT := Lib.hid hb
    clear Z6 Z8 hk hb e6 e8 y0 y1 y2 y3 y4 y5 f0 f1 f2 f3 f4 f5 s0 s1 g0 g1 r0 r1 h0 q0 q1 q2 q3 q4 q5 q6 q7 q8 n1 n2 n3 n4 n5 n6
    refine hK _ _ ?_
    go_wp2
    refine bodyPost_ret (results_ctc rfl _ _ W.heap.size _ _ (0, 0) _ (W.heap.size + 1) _ _ (0, 0) _ rfl HZ6.out Try.underlying27 rfl val_size rfl HZ8.out Try.underlying29 rfl verd_size) rfl ?_
    exact ⟨_, rfl, HV.out, HT.out⟩

theorem rSome_any (s : ByteArray) (cl : Bool) (d : Nat) (hs : s.size ≤ 50000) (hd : 1 ≤ d) (hd2 : d ≤ 1000) (W : World) :
    Calls Try.prog 12 #[.string s, .int .i64 d, .bool cl] W fun e w' => SomeEnd W (SomeR s.data.toList d cl) e w' := by
  have hsl : s.data.toList.length = s.size := rfl
  obtain ⟨k0, hk0⟩ : ∃ k0, blankR s.data.toList 0 = k0 := ⟨_, rfl⟩
  unfold SomeR
  rw [newN_most d hd, hk0, hsl]
  by_cases hge : s.size ≤ k0
  · rw [if_pos hge]
    cases cl
    · exact rSome_ef s d hs hd hd2 k0 hk0 hge W
    · exact rSome_et s d hs hd hd2 k0 hk0 hge W
  · rw [if_neg hge]
    have hlt : k0 < s.size := by omega
    obtain ⟨⟨pv, pb, pp, pf⟩, hp⟩ : ∃ p, someR s.data.toList cl d k0 = p := ⟨_, rfl⟩
    have hbd := someR_bd s.data.toList cl d k0 hlt
    have HSM := rsome_all s cl hs d hd2 k0 hlt
    rw [hp] at hbd HSM ⊢
    have hpp : pp ≤ s.size := hbd.1
    have hp0 : pf = 0 → k0 ≤ pp ∧ pb = true := hbd.2
    show Calls _ _ _ _ fun e w' => SomeEnd W (if pf = 10 ∧ cl = false then _ else if pf ≠ 0 then _ else if blankR s.data.toList pp < s.size then _ else _) e w'
    by_cases ht : pf = 10 ∧ cl = false
    · rw [if_pos ht]
      obtain ⟨rfl, rfl⟩ := ht
      exact rSome_t s d hs hd hd2 k0 hk0 hlt pv pb pp 10 hpp HSM W _ rfl
    · rw [if_neg ht]
      by_cases hf : pf = 0
      · obtain ⟨_, rfl⟩ := hp0 hf
        subst hf
        rw [if_neg (fun h => h rfl)]
        by_cases hl1 : blankR s.data.toList pp < s.size
        · rw [if_pos hl1]
          exact rSome_r s d hs hd hd2 k0 hk0 hlt pv true pp 0 hpp cl HSM _ rfl hl1 W _ rfl
        · rw [if_neg hl1]
          cases cl
          · exact rSome_a s d hs hd hd2 k0 hk0 hlt pv true pp 0 hpp HSM _ rfl (by omega) W _ rfl
          · exact rSome_b s d hs hd hd2 k0 hk0 hlt pv true pp 0 hpp HSM _ rfl (by omega) W _ rfl
      · rw [if_pos hf]
        by_cases h10 : pf = 10
        · subst h10
          obtain rfl : cl = true := by cases cl; exact absurd ⟨rfl, rfl⟩ ht; rfl
          exact rSome_g s d hs hd hd2 k0 hk0 hlt pv pb pp 10 hpp HSM W _ rfl
        · exact rSome_f s d hs hd hd2 k0 hk0 hlt pv pb pp pf hpp cl HSM (bne_iff_ne.2 hf) (beq_eq_false_iff_ne.2 h10) W _ rfl

end Go.Proofs.Ytaklbbkjhbkieaa

namespace Go.Proofs.Ytaklbbkjhbkieaa
open Go.RowKit
set_option linter.unusedVariables false

/-- Where Parse stands, once Some has answered. -/
structure SmY (W w : World) (x : V6) (pv : Tree) (E : Nat) : Prop where
  o6 : Own w W.heap.size 27 zero6
  o8 : Own w (W.heap.size + 1) 29 #[.int .i64 0, .int .i64 0]
  bel : Below W.heap.size W w
  kept : VKept (W.heap.size + 2) E w pv x
  top : E ≤ w.heap.size
theorem SmY.done {W w : World} {x : V6} {pv : Tree} {E : Nat} (h : SmY W w x pv E) (kd : Int) (p : Nat) :
    Own (putS w W.heap.size x kd p) W.heap.size 27 (v6Cells x).toArray ∧ Own (putS w W.heap.size x kd p) (W.heap.size + 1) 29 #[.int .i64 kd, .int .i64 p] ∧
    VKept W.heap.size (putS w W.heap.size x kd p).heap.size (putS w W.heap.size x kd p) pv x ∧ Below W.heap.size W (putS w W.heap.size x kd p) := by
  have ht := h.top
  have p1 : Own (putS w W.heap.size x kd p) W.heap.size 27 (v6Cells x).toArray := by
    unfold putS
    exact two_past (six_own h.o6 x) (by omega) kd p
  have p2 : Own (putS w W.heap.size x kd p) (W.heap.size + 1) 29 #[.int .i64 kd, .int .i64 p] := by
    unfold putS
    exact two_own (six_past h.o8 (by omega) x) kd p
  have hs := putS_size w W.heap.size x kd p
  have hh : ∀ b, b ≠ W.heap.size → b ≠ W.heap.size + 1 → (putS w W.heap.size x kd p).heap[b]? = w.heap[b]? := fun b h1 h2 => putS_high h1 h2 x kd p
  have p3 : Below W.heap.size W (putS w W.heap.size x kd p) := by
    unfold putS put2R put6R
    exact (((((((h.bel.setCell (p := ⟨W.heap.size, 0, none⟩) (Nat.le_refl _) _).setCell (p := ⟨W.heap.size, 1, none⟩) (Nat.le_refl _) _).setCell (p := ⟨W.heap.size, 2, none⟩) (Nat.le_refl _) _).setCell (p := ⟨W.heap.size, 3, none⟩) (Nat.le_refl _) _).setCell (p := ⟨W.heap.size, 4, none⟩) (Nat.le_refl _) _).setCell (p := ⟨W.heap.size, 5, none⟩) (Nat.le_refl _) _).setCell (p := ⟨W.heap.size + 1, 0, none⟩) (Nat.le_succ _) _).setCell (p := ⟨W.heap.size + 1, 1, none⟩) (Nat.le_succ _) _
  generalize putS w W.heap.size x kd p = wF at p1 p2 p3 hs hh ⊢
  exact ⟨p1, p2, fun u hu => h.kept u (fun b h1 h2 => (hu b (by omega) (by omega)).trans (hh b (by omega) (by omega))), p3⟩
/-- How Parse ends. -/
def ParseEndR (W : World) (r : Tree × Int × Nat) (e : Ending) (w' : World) : Prop :=
  ∃ x : V6, e = .returned (.tuple #[.agg #[.int .i64 x.kd, .int .i64 x.fr, .int .i64 x.to, .string ⟨x.tx.toArray⟩, .slice x.A x.n x.c, .slice x.B x.m x.d], .agg #[.int .i64 r.2.1, .int .i64 r.2.2]]) ∧ VIs w' r.1 x ∧ Below W.heap.size W w'

theorem new_size (w : World) (o : Obj) : (w.alloc o).heap.size = w.heap.size + 1 := by simp
set_option maxHeartbeats 16000000 in
set_option maxRecDepth 100000 in
theorem rParse_ok (s : ByteArray) (d : Nat) (hs : s.size ≤ 50000) (hd : 1 ≤ d) (hd2 : d ≤ 1000) (pv : Tree) (pb : Bool) (kk : Int) (pp : Nat) 
    (HSM0 : ∀ w, Calls Try.prog 12 #[.string s, .int .i64 d, .bool true] w fun e w' => ∃ x : V6, e = .returned (.tuple #[.agg #[.int .i64 x.kd, .int .i64 x.fr, .int .i64 x.to, .string ⟨x.tx.toArray⟩, .slice x.A x.n x.c, .slice x.B x.m x.d], .bool pb, .agg #[.int .i64 1, .int .i64 pp]]) ∧ VKept w.heap.size w'.heap.size w' pv x ∧ Below w.heap.size w w') (W : World) :
    Calls Try.prog 6 #[.string s, .int .i64 d] W fun e w' => ParseEndR W (pv, 1, pp) e w' := by
  have HSM := Lib.hid HSM0
  clear HSM0
  go_enter Try.func6, Try.ntmps6
  go_upto_region 2 with (
    go_at_call 12
    go_must (
      refine (HSM.out _).mono ?_
      rintro e w3 ⟨x, rfl, hk3, hb3⟩
      have b2 := below2 W (.cells zero6 27) (.cells #[.int .i64 0, .int .i64 0] 29)
      have b4 := below2 w3 (.cells (v6Cells x).toArray 27) (.cells #[.int .i64 1, .int .i64 pp] 29)
      have p2 := Own.fresh (W.alloc (.cells zero6 27)) 29 #[.int .i64 0, .int .i64 0]
      have hz : ((W.alloc (.cells zero6 27)).alloc (.cells #[.int .i64 0, .int .i64 0] 29)).heap.size = W.heap.size + 2 := by simp
      have SP : SmY W ((w3.alloc (.cells (v6Cells x).toArray 27)).alloc (.cells #[.int .i64 1, .int .i64 pp] 29)) x pv w3.heap.size := by
        have p1 := (Own.fresh W 27 zero6).over (.cells #[.int .i64 0, .int .i64 0] 29)
        simp at p2
        have hb3s := hb3.size
        refine ⟨((p1.stay hb3 p1.inside).over _).over _, ((p2.stay hb3 p2.inside).over _).over _, (b2.trans (hb3.mono b2.size)).trans (b4.mono (Nat.le_trans b2.size hb3.size)), fun u hu => hk3 u (fun b h1 h2 => (hu b (by simp at h1; omega) h2).trans (b4.block b h2)), b4.size⟩
      have OX := (Own.fresh w3 27 (v6Cells x).toArray).over (.cells #[.int .i64 1, .int .i64 pp] 29)
      have OV := Own.fresh (w3.alloc (.cells (v6Cells x).toArray 27)) 29 #[.int .i64 1, .int .i64 pp]
      simp only [new_size] at OV
      have hq : W.heap.size + 2 ≤ w3.heap.size := by have := hb3.size; simp at this; omega
      clear b2 b4 p2 hz hk3 hb3))
  unfold v6Cells at SP OX OV
  change Code.wp _ _ _ _ ((w3.alloc (.cells #[.int .i64 x.kd, .int .i64 x.fr, .int .i64 x.to, .string ⟨x.tx.toArray⟩, .slice x.A x.n x.c, .slice x.B x.m x.d] 27)).alloc (.cells #[.int .i64 1, .int .i64 pp] 29))
  change SmY W ((w3.alloc (.cells #[.int .i64 x.kd, .int .i64 x.fr, .int .i64 x.to, .string ⟨x.tx.toArray⟩, .slice x.A x.n x.c, .slice x.B x.m x.d] 27)).alloc (.cells #[.int .i64 1, .int .i64 pp] 29)) x pv w3.heap.size at SP
  change Own ((w3.alloc (.cells #[.int .i64 x.kd, .int .i64 x.fr, .int .i64 x.to, .string ⟨x.tx.toArray⟩, .slice x.A x.n x.c, .slice x.B x.m x.d] 27)).alloc (.cells #[.int .i64 1, .int .i64 pp] 29)) w3.heap.size 27 #[.int .i64 x.kd, .int .i64 x.fr, .int .i64 x.to, .string ⟨x.tx.toArray⟩, .slice x.A x.n x.c, .slice x.B x.m x.d] at OX
  change Own ((w3.alloc (.cells #[.int .i64 x.kd, .int .i64 x.fr, .int .i64 x.to, .string ⟨x.tx.toArray⟩, .slice x.A x.n x.c, .slice x.B x.m x.d] 27)).alloc (.cells #[.int .i64 1, .int .i64 pp] 29)) (w3.heap.size + 1) 29 #[.int .i64 1, .int .i64 pp] at OV
  generalize (w3.alloc (.cells #[.int .i64 x.kd, .int .i64 x.fr, .int .i64 x.to, .string ⟨x.tx.toArray⟩, .slice x.A x.n x.c, .slice x.B x.m x.d] 27)).alloc (.cells #[.int .i64 1, .int .i64 pp] 29) = wP at SP OX OV ⊢
  generalize w3.heap.size = q at SP OX OV hq ⊢
  have S := SP
  clear SP HSM
  have q0 := OX.at 0
  have q1 := OX.at 1
  have q2 := OX.at 2
  have q3 := OX.at 3
  have q4 := OX.at 4
  have q5 := OX.at 5
  simp at q0 q1 q2 q3 q4 q5
  have n1 : ¬ q = W.heap.size := by omega
  have n2 : ¬ q = W.heap.size + 1 := by omega
  have n3 : ¬ q + 1 = W.heap.size := by omega
  have n4 : ¬ q + 1 = W.heap.size + 1 := by omega
  have n5 : ¬ W.heap.size = q := by omega
  have n6 : ¬ W.heap.size + 1 = q := by omega
  have n7 : ¬ W.heap.size = q + 1 := by omega
  have n8 : ¬ W.heap.size + 1 = q + 1 := by omega
  have y0 := S.o6.at 0
  have y1 := S.o6.at 1
  have y2 := S.o6.at 2
  have y3 := S.o6.at 3
  have y4 := S.o6.at 4
  have y5 := S.o6.at 5
  simp [zero6] at y0 y1 y2 y3 y4 y5
  have f0 := S.o6.free 0
  have f1 := S.o6.free 1
  have f2 := S.o6.free 2
  have f3 := S.o6.free 3
  have f4 := S.o6.free 4
  have f5 := S.o6.free 5
  have s0 := S.o8.at 0
  have s1 := S.o8.at 1
  simp at s0 s1
  have g0 := S.o8.free 0
  have g1 := S.o8.free 1
  have r0 := OV.at 0
  have r1 := OV.at 1
  simp at r0 r1
  go_upto_region 4 with fail
  go_region
  all_goals
    rename_i hK
    obtain ⟨e6, e8, hk, hb⟩ := S.done 1 pp
    have hk := hk.drew1
    have Z6 := own_drew e6
    have Z8 := own_drew e8
    have hb := hb.drew
    unfold putS put2R put6R at Z6 Z8 hk hb
    try dsimp only [zeroY] at Z6 Z8 hk hb
    have HZ6 := Lib.hid Z6
    have HZ8 := Lib.hid Z8
    have HV := Lib.hid hk
    have HT := Lib.hid hb
    clear Z6 Z8 hk hb e6 e8 y0 y1 y2 y3 y4 y5 f0 f1 f2 f3 f4 f5 s0 s1 g0 g1 r0 r1 q0 q1 q2 q3 q4 q5 n1 n2 n3 n4 n5 n6 n7 n8
    refine hK _ _ ?_
    go_wp2
    refine bodyPost_ret (results_cc rfl _ _ W.heap.size _ _ (0, 0) _ (W.heap.size + 1) _ _ (0, 0) _ rfl HZ6.out Try.underlying27 rfl val_size rfl HZ8.out Try.underlying29 rfl verd_size) rfl ?_
    exact ⟨_, rfl, HV.out _ (fun _ _ _ => rfl), HT.out⟩

set_option maxHeartbeats 16000000 in
set_option maxRecDepth 100000 in
theorem rParse_no (s : ByteArray) (d : Nat) (hs : s.size ≤ 50000) (hd : 1 ≤ d) (hd2 : d ≤ 1000) (pv : Tree) (pb : Bool) (kk : Int) (pp : Nat) (hk : (kk != 1) = true)
    (HSM0 : ∀ w, Calls Try.prog 12 #[.string s, .int .i64 d, .bool true] w fun e w' => ∃ x : V6, e = .returned (.tuple #[.agg #[.int .i64 x.kd, .int .i64 x.fr, .int .i64 x.to, .string ⟨x.tx.toArray⟩, .slice x.A x.n x.c, .slice x.B x.m x.d], .bool pb, .agg #[.int .i64 kk, .int .i64 pp]]) ∧ VKept w.heap.size w'.heap.size w' pv x ∧ Below w.heap.size w w') (W : World) :
    Calls Try.prog 6 #[.string s, .int .i64 d] W fun e w' => ParseEndR W (zeroT, kk, pp) e w' := by
  have HSM := Lib.hid HSM0
  clear HSM0
  go_enter Try.func6, Try.ntmps6
  go_upto_region 2 with (
    go_at_call 12
    go_must (
      refine (HSM.out _).mono ?_
      rintro e w3 ⟨x, rfl, hk3, hb3⟩
      have b2 := below2 W (.cells zero6 27) (.cells #[.int .i64 0, .int .i64 0] 29)
      have b4 := below2 w3 (.cells (v6Cells x).toArray 27) (.cells #[.int .i64 kk, .int .i64 pp] 29)
      have p2 := Own.fresh (W.alloc (.cells zero6 27)) 29 #[.int .i64 0, .int .i64 0]
      have hz : ((W.alloc (.cells zero6 27)).alloc (.cells #[.int .i64 0, .int .i64 0] 29)).heap.size = W.heap.size + 2 := by simp
      have SP : SmY W ((w3.alloc (.cells (v6Cells x).toArray 27)).alloc (.cells #[.int .i64 kk, .int .i64 pp] 29)) x pv w3.heap.size := by
        have p1 := (Own.fresh W 27 zero6).over (.cells #[.int .i64 0, .int .i64 0] 29)
        simp at p2
        have hb3s := hb3.size
        refine ⟨((p1.stay hb3 p1.inside).over _).over _, ((p2.stay hb3 p2.inside).over _).over _, (b2.trans (hb3.mono b2.size)).trans (b4.mono (Nat.le_trans b2.size hb3.size)), fun u hu => hk3 u (fun b h1 h2 => (hu b (by simp at h1; omega) h2).trans (b4.block b h2)), b4.size⟩
      have OX := (Own.fresh w3 27 (v6Cells x).toArray).over (.cells #[.int .i64 kk, .int .i64 pp] 29)
      have OV := Own.fresh (w3.alloc (.cells (v6Cells x).toArray 27)) 29 #[.int .i64 kk, .int .i64 pp]
      simp only [new_size] at OV
      have hq : W.heap.size + 2 ≤ w3.heap.size := by have := hb3.size; simp at this; omega
      clear b2 b4 p2 hz hk3 hb3))
  unfold v6Cells at SP OX OV
  change Code.wp _ _ _ _ ((w3.alloc (.cells #[.int .i64 x.kd, .int .i64 x.fr, .int .i64 x.to, .string ⟨x.tx.toArray⟩, .slice x.A x.n x.c, .slice x.B x.m x.d] 27)).alloc (.cells #[.int .i64 kk, .int .i64 pp] 29))
  change SmY W ((w3.alloc (.cells #[.int .i64 x.kd, .int .i64 x.fr, .int .i64 x.to, .string ⟨x.tx.toArray⟩, .slice x.A x.n x.c, .slice x.B x.m x.d] 27)).alloc (.cells #[.int .i64 kk, .int .i64 pp] 29)) x pv w3.heap.size at SP
  change Own ((w3.alloc (.cells #[.int .i64 x.kd, .int .i64 x.fr, .int .i64 x.to, .string ⟨x.tx.toArray⟩, .slice x.A x.n x.c, .slice x.B x.m x.d] 27)).alloc (.cells #[.int .i64 kk, .int .i64 pp] 29)) w3.heap.size 27 #[.int .i64 x.kd, .int .i64 x.fr, .int .i64 x.to, .string ⟨x.tx.toArray⟩, .slice x.A x.n x.c, .slice x.B x.m x.d] at OX
  change Own ((w3.alloc (.cells #[.int .i64 x.kd, .int .i64 x.fr, .int .i64 x.to, .string ⟨x.tx.toArray⟩, .slice x.A x.n x.c, .slice x.B x.m x.d] 27)).alloc (.cells #[.int .i64 kk, .int .i64 pp] 29)) (w3.heap.size + 1) 29 #[.int .i64 kk, .int .i64 pp] at OV
  generalize (w3.alloc (.cells #[.int .i64 x.kd, .int .i64 x.fr, .int .i64 x.to, .string ⟨x.tx.toArray⟩, .slice x.A x.n x.c, .slice x.B x.m x.d] 27)).alloc (.cells #[.int .i64 kk, .int .i64 pp] 29) = wP at SP OX OV ⊢
  generalize w3.heap.size = q at SP OX OV hq ⊢
  have S := SP
  clear SP HSM
  have SZ : SmY W wP zeroY zeroT 0 := ⟨S.o6, S.o8, S.bel, fun u _ => leaf_is u 0 0 0 [], Nat.zero_le _⟩
  have q0 := OX.at 0
  have q1 := OX.at 1
  have q2 := OX.at 2
  have q3 := OX.at 3
  have q4 := OX.at 4
  have q5 := OX.at 5
  simp at q0 q1 q2 q3 q4 q5
  have n1 : ¬ q = W.heap.size := by omega
  have n2 : ¬ q = W.heap.size + 1 := by omega
  have n3 : ¬ q + 1 = W.heap.size := by omega
  have n4 : ¬ q + 1 = W.heap.size + 1 := by omega
  have n5 : ¬ W.heap.size = q := by omega
  have n6 : ¬ W.heap.size + 1 = q := by omega
  have n7 : ¬ W.heap.size = q + 1 := by omega
  have n8 : ¬ W.heap.size + 1 = q + 1 := by omega
  have y0 := S.o6.at 0
  have y1 := S.o6.at 1
  have y2 := S.o6.at 2
  have y3 := S.o6.at 3
  have y4 := S.o6.at 4
  have y5 := S.o6.at 5
  simp [zero6] at y0 y1 y2 y3 y4 y5
  have f0 := S.o6.free 0
  have f1 := S.o6.free 1
  have f2 := S.o6.free 2
  have f3 := S.o6.free 3
  have f4 := S.o6.free 4
  have f5 := S.o6.free 5
  have s0 := S.o8.at 0
  have s1 := S.o8.at 1
  simp at s0 s1
  have g0 := S.o8.free 0
  have g1 := S.o8.free 1
  have r0 := OV.at 0
  have r1 := OV.at 1
  simp at r0 r1
  go_upto_region 3 with fail
  go_region
  all_goals
    rename_i hK
    obtain ⟨e6, e8, hk, hb⟩ := SZ.done kk pp
    have hk := hk.drew1
    have Z6 := own_drew e6
    have Z8 := own_drew e8
    have hb := hb.drew
    unfold putS put2R put6R at Z6 Z8 hk hb
    try dsimp only [zeroY] at Z6 Z8 hk hb
    have HZ6 := Lib.hid Z6
    have HZ8 := Lib.hid Z8
    have HV := Lib.hid hk
    have HT := Lib.hid hb
    clear Z6 Z8 hk hb e6 e8 y0 y1 y2 y3 y4 y5 f0 f1 f2 f3 f4 f5 s0 s1 g0 g1 r0 r1 q0 q1 q2 q3 q4 q5 n1 n2 n3 n4 n5 n6 n7 n8
    refine hK _ _ ?_
    go_wp2
    refine bodyPost_ret (results_cc rfl _ _ W.heap.size _ _ (0, 0) _ (W.heap.size + 1) _ _ (0, 0) _ rfl HZ6.out Try.underlying27 rfl val_size rfl HZ8.out Try.underlying29 rfl verd_size) rfl ?_
    exact ⟨_, rfl, HV.out _ (fun _ _ _ => rfl), HT.out⟩

theorem rParse_any (s : ByteArray) (d : Nat) (hs : s.size ≤ 50000) (hd : 1 ≤ d) (hd2 : d ≤ 1000) (W : World) :
    Calls Try.prog 6 #[.string s, .int .i64 d] W fun e w' => ParseEndR W (ParseR s.data.toList d) e w' := by
  have HS := fun w => rSome_any s true d hs hd hd2 w
  unfold ParseR
  obtain ⟨⟨pv, pb, kk, pp⟩, hp⟩ : ∃ r, SomeR s.data.toList d true = r := ⟨_, rfl⟩
  rw [hp] at HS ⊢
  by_cases hk : kk = 1
  · subst hk
    exact rParse_ok s d hs hd hd2 pv pb 1 pp HS W
  · show Calls _ _ _ _ fun e w' => ParseEndR W (if kk = 1 then _ else _) e w'
    rw [if_neg hk]
    exact rParse_no s d hs hd hd2 pv pb kk pp (bne_iff_ne.2 hk) HS W

end Go.Proofs.Ytaklbbkjhbkieaa

namespace Go.Proofs.Ytaklbbkjhbkieaa
open Go.RowKit

theorem u8_eq {x : Int} {a : UInt8} (h : x = a.toNat) : UInt8.ofNat x.toNat = a := by
  subst h
  simp

theorem ofB_one {m : Int} {a : UInt8} (h : m < 128) (e : m = a.toNat) : ofB m = [a] := by
  unfold ofB
  rcases ofI_is (n := m) with ⟨_, h1⟩ | ⟨_, _, h1⟩ | ⟨_, _, h1⟩ | ⟨_, h1⟩ <;> first | (exfalso; omega) | (rw [h1]; simp [e])
theorem ofB_two {m : Int} {a b : UInt8} (h : 128 ≤ m) (h' : m < 2048) (ea : 192 + m / 64 = a.toNat) (eb : 128 + m % 64 = b.toNat) : ofB m = [a, b] := by
  unfold ofB
  rcases ofI_is (n := m) with ⟨_, h1⟩ | ⟨_, _, h1⟩ | ⟨_, _, h1⟩ | ⟨_, h1⟩ <;> first | (exfalso; omega) | (rw [h1]; simp [ea, eb])
theorem ofB_three {m : Int} {a b c : UInt8} (h : 2048 ≤ m) (h' : m < 65536) (ea : 224 + m / 4096 = a.toNat) (eb : 128 + m / 64 % 64 = b.toNat) (ec : 128 + m % 64 = c.toNat) : ofB m = [a, b, c] := by
  unfold ofB
  rcases ofI_is (n := m) with ⟨_, h1⟩ | ⟨_, _, h1⟩ | ⟨_, _, h1⟩ | ⟨_, h1⟩ <;> first | (exfalso; omega) | (rw [h1]; simp [ea, eb, ec])
theorem ofB_le4 {m : Int} {a b c d : UInt8} (h : 65536 ≤ m) (ea : 240 + m / 262144 = a.toNat) (eb : 128 + m / 4096 % 64 = b.toNat) (ec : 128 + m / 64 % 64 = c.toNat) (ed : 128 + m % 64 = d.toNat) : ofB m = [a, b, c, d] := by
  unfold ofB
  rcases ofI_is (n := m) with ⟨_, h1⟩ | ⟨_, _, h1⟩ | ⟨_, _, h1⟩ | ⟨_, h1⟩ <;> first | (exfalso; omega) | (rw [h1]; simp [ea, eb, ec, ed])

/-- A number that has a sign. -/
def Sgn (v : Int) : Prop := 0 ≤ v ∧ v ≤ 1114111 ∧ (v < 55296 ∨ 57343 < v)

theorem okU_bdn {sg c : Int} (h : okU sg 1 c = true) : 128 ≤ c ∧ c ≤ 191 := okU_bd (by decide) h

/-- The bytes of the sign that a byte ends. -/
theorem sign_end {p : List UInt8} {sg lf : Int} {c : UInt8} (h : InvL p sg lf) (hk : okU sg lf c.toNat = true) (hl : lfU lf c.toNat = 0) :
    ofB (sgU sg lf c.toNat) = p ++ [c] ∧ Sgn (sgU sg lf c.toNat) := by
  have h256 := UInt8.toNat_lt c
  match p, h with
  | [], h =>
    have h : lf = 0 := h
    subst h
    have hc : (c.toNat : Int) < 128 := by
      by_cases h : (c.toNat : Int) < 128
      · exact h
      · exfalso
        revert hl
        unfold lfU
        rw [if_pos rfl, if_neg h]
        by_cases h2 : (c.toNat : Int) < 224
        · rw [if_pos h2]; omega
        · rw [if_neg h2]
          by_cases h3 : (c.toNat : Int) < 240
          · rw [if_pos h3]; omega
          · rw [if_neg h3]; omega
    have e : sgU sg 0 c.toNat = c.toNat := by unfold sgU; rw [if_pos rfl, if_pos hc]
    rw [e]
    exact ⟨ofB_one hc rfl, by unfold Sgn; omega⟩
  | [a], h =>
    have h : (194 ≤ a.toNat ∧ a.toNat ≤ 223 ∧ lf = 1 ∧ sg = a.toNat - 192) ∨ (224 ≤ a.toNat ∧ a.toNat ≤ 239 ∧ lf = 2 ∧ sg = a.toNat - 224) ∨ (240 ≤ a.toNat ∧ a.toNat ≤ 244 ∧ lf = 3 ∧ sg = a.toNat - 240) := h
    rcases h with ⟨h1, h2, rfl, rfl⟩ | ⟨h1, h2, rfl, rfl⟩ | ⟨h1, h2, rfl, rfl⟩
    · have := okU_bdn hk
      have e : sgU ((a.toNat : Int) - 192) 1 c.toNat = ((a.toNat : Int) - 192) * 64 + (c.toNat - 128) := rfl
      rw [e]
      exact ⟨ofB_two (by omega) (by omega) (by omega) (by omega), by unfold Sgn; omega⟩
    · exact absurd hl (by simp [lfU])
    · exact absurd hl (by simp [lfU])
  | [a, b], h =>
    have h : 128 ≤ b.toNat ∧ b.toNat ≤ 191 ∧ ((224 ≤ a.toNat ∧ a.toNat ≤ 239 ∧ lf = 1 ∧ sg = (a.toNat - 224) * 64 + b.toNat - 128 ∧ 32 ≤ sg ∧ (sg < 864 ∨ 896 ≤ sg)) ∨ (240 ≤ a.toNat ∧ a.toNat ≤ 244 ∧ lf = 2 ∧ sg = (a.toNat - 240) * 64 + b.toNat - 128 ∧ 16 ≤ sg ∧ sg ≤ 271)) := h
    obtain ⟨hb1, hb2, ⟨h1, h2, rfl, e, h3, h4⟩ | ⟨h1, h2, rfl, e, h3, h4⟩⟩ := h
    · have := okU_bdn hk
      have e1 : sgU sg 1 c.toNat = sg * 64 + (c.toNat - 128) := rfl
      rw [e1]
      exact ⟨ofB_three (by omega) (by omega) (by omega) (by omega) (by omega), by unfold Sgn; omega⟩
    · exact absurd hl (by simp [lfU])
  | [a, b, d], h =>
    have h : 128 ≤ b.toNat ∧ b.toNat ≤ 191 ∧ 128 ≤ d.toNat ∧ d.toNat ≤ 191 ∧ 240 ≤ a.toNat ∧ a.toNat ≤ 244 ∧ lf = 1 ∧ sg = ((a.toNat - 240) * 64 + b.toNat - 128) * 64 + d.toNat - 128 ∧ 1024 ≤ sg ∧ sg ≤ 17407 := h
    obtain ⟨hb1, hb2, hd1, hd2, h1, h2, rfl, e, h3, h4⟩ := h
    have := okU_bdn hk
    have e1 : sgU sg 1 c.toNat = sg * 64 + (c.toNat - 128) := rfl
    rw [e1]
    exact ⟨ofB_le4 (by omega) (by omega) (by omega) (by omega) (by omega), by unfold Sgn; omega⟩
  | _ :: _ :: _ :: _ :: _, h => exact absurd h (by simp [InvL])

theorem ofB_enc {v : Int} (h : Sgn v) : Lib.encodeRune v = ofB v := by
  obtain ⟨h0, h1, h2⟩ := h
  unfold Lib.encodeRune ofB
  rcases ofI_is (n := v) with ⟨_, e⟩ | ⟨_, _, e⟩ | ⟨_, _, e⟩ | ⟨_, e⟩
  · rw [e, Lib.encodeRuneZ_one h0 (by omega)]
  · rw [e, Lib.encodeRuneZ_two (by omega) (by omega)]
  · rw [e, Lib.encodeRuneZ_three (by omega)]
  · rw [e, Lib.encodeRuneZ_four (by omega) (by omega)]

theorem ofNat_int (k : Nat) (x : Int) (h : x = k) : UInt8.ofNat x.toNat = UInt8.ofNat k := by rw [h]; rfl
theorem enc_ofB {v : Int} (h : Sgn v) : (Utf8.encode v).data.toList = ofB v := by
  obtain ⟨h0, h1, h2⟩ := h
  have hv : Utf8.valid v = true := by
    unfold Utf8.valid
    rw [Bool.or_eq_true, Bool.and_eq_true, Bool.and_eq_true]
    simp only [decide_eq_true_eq]
    omega
  have hn : (v.toNat : Int) = v := Int.toNat_of_nonneg h0
  unfold Utf8.encode
  simp only [hv, if_true]
  unfold ofB
  generalize v.toNat = n at *
  subst hn
  rcases ofI_is (n := (n : Int)) with ⟨_, e⟩ | ⟨_, _, e⟩ | ⟨_, _, e⟩ | ⟨_, e⟩
  · rw [if_pos (by omega), e]; simp
  · rw [if_neg (by omega), if_pos (by omega), e]
    show [UInt8.ofNat (192 + n / 64), UInt8.ofNat (128 + n % 64)] = [UInt8.ofNat (192 + (n : Int) / 64).toNat, UInt8.ofNat (128 + (n : Int) % 64).toNat]
    rw [ofNat_int (192 + n / 64) _ (by omega), ofNat_int (128 + n % 64) _ (by omega)]
  · rw [if_neg (by omega), if_neg (by omega), if_pos (by omega), e]
    show [UInt8.ofNat (224 + n / 4096), UInt8.ofNat (128 + n / 64 % 64), UInt8.ofNat (128 + n % 64)] = [UInt8.ofNat (224 + (n : Int) / 4096).toNat, UInt8.ofNat (128 + (n : Int) / 64 % 64).toNat, UInt8.ofNat (128 + (n : Int) % 64).toNat]
    rw [ofNat_int (224 + n / 4096) _ (by omega), ofNat_int (128 + n / 64 % 64) _ (by omega), ofNat_int (128 + n % 64) _ (by omega)]
  · rw [if_neg (by omega), if_neg (by omega), if_neg (by omega), e]
    show [UInt8.ofNat (240 + n / 262144), UInt8.ofNat (128 + n / 4096 % 64), UInt8.ofNat (128 + n / 64 % 64), UInt8.ofNat (128 + n % 64)] = [UInt8.ofNat (240 + (n : Int) / 262144).toNat, UInt8.ofNat (128 + (n : Int) / 4096 % 64).toNat, UInt8.ofNat (128 + (n : Int) / 64 % 64).toNat, UInt8.ofNat (128 + (n : Int) % 64).toNat]
    rw [ofNat_int (240 + n / 262144) _ (by omega), ofNat_int (128 + n / 4096 % 64) _ (by omega), ofNat_int (128 + n / 64 % 64) _ (by omega), ofNat_int (128 + n % 64) _ (by omega)]

/-- Signs, one behind the other. -/
def encs (vs : List Int) : List UInt8 := vs.flatMap ofB
theorem encs_snoc (vs : List Int) (v : Int) : encs (vs ++ [v]) = encs vs ++ ofB v := by simp [encs]
theorem ofB_pos (v : Int) : 1 ≤ (ofB v).length := by
  unfold ofB ofI
  (repeat' split) <;> simp
theorem encs_len (vs : List Int) : vs.length ≤ (encs vs).length ∧ (encs vs).length ≤ 4 * vs.length := by
  induction vs with
  | nil => simp [encs]
  | cons v t ih =>
    have h1 := ofB_pos v
    have h2 := ofB_len v
    have e : encs (v :: t) = ofB v ++ encs t := by simp [encs]
    rw [e]
    simp
    omega
theorem runes_fold (vs : List Int) (h : ∀ v ∈ vs, Sgn v) : ∀ r : ByteArray, (vs.foldl (fun r n => r ++ Utf8.encode n) r).data.toList = r.data.toList ++ encs vs := by
  induction vs with
  | nil => intro r; simp [encs]
  | cons v t ih =>
    intro r
    rw [List.foldl_cons, ih (fun x hx => h x (by simp [hx]))]
    have e : encs (v :: t) = ofB v ++ encs t := by simp [encs]
    rw [e, ByteArray.data_append, Array.toList_append, enc_ofB (h v (by simp)), List.append_assoc]
theorem runesBytes_encs (vs : List Int) (h : ∀ v ∈ vs, Sgn v) : runesBytes vs = ⟨(encs vs).toArray⟩ := by
  have := runes_fold vs h ByteArray.empty
  have e : ∀ a b : ByteArray, a.data.toList = b.data.toList → a = b := fun a b h => by
    cases a with | mk x => cases b with | mk y => exact congrArg ByteArray.mk (Array.toList_inj.1 h)
  apply e
  unfold runesBytes
  rw [this]
  simp

-- the first sign of a text, by its bytes
theorem sgn_none (c : UInt8) (t : List UInt8) (h : 128 ≤ c.toNat ∧ c.toNat < 194 ∨ 245 ≤ c.toNat) : sgnL (c :: t) = 0 := by
  rw [sgn_cons, if_neg (by unfold okU; rw [if_pos rfl]; simp; omega)]
theorem ok_last (sg : Int) (c : UInt8) : (okU sg 1 c.toNat = true) ↔ (128 ≤ c.toNat ∧ c.toNat ≤ 191) := by
  unfold okU lowU highU
  simp
  omega
theorem sgn_last (sg : Int) (t : List UInt8) (k : Nat) : sgnGo sg 1 t k = match t with | [] => 0 | c :: _ => if 128 ≤ c.toNat ∧ c.toNat ≤ 191 then k + 1 else 0 := by
  cases t with
  | nil => rfl
  | cons c t =>
    show (if okU sg 1 c.toNat then (if lfU 1 c.toNat = 0 then k + 1 else _) else 0) = _
    rw [if_pos (show lfU 1 c.toNat = 0 from rfl)]
    by_cases h : 128 ≤ c.toNat ∧ c.toNat ≤ 191
    · rw [if_pos ((ok_last sg c).2 h)]; simp [h]
    · rw [if_neg (fun e => h ((ok_last sg c).1 e))]; simp [h]
theorem sgn_more (sg lf : Int) (c : UInt8) (t : List UInt8) (k : Nat) (hl : 2 ≤ lf) : sgnGo sg lf (c :: t) k = if lowU sg lf ≤ c.toNat ∧ (c.toNat : Int) ≤ highU sg lf then sgnGo (sg * 64 + (c.toNat - 128)) (lf - 1) t (k + 1) else 0 := by
  show (if okU sg lf c.toNat then (if lfU lf c.toNat = 0 then k + 1 else sgnGo (sgU sg lf c.toNat) (lfU lf c.toNat) t (k + 1)) else 0) = _
  have e1 : lfU lf c.toNat = lf - 1 := by unfold lfU; rw [if_neg (by omega)]
  have e2 : sgU sg lf c.toNat = sg * 64 + (c.toNat - 128) := by unfold sgU; rw [if_neg (by omega)]
  rw [e1, e2, if_neg (show ¬ (lf - 1 = 0) by omega)]
  by_cases h : lowU sg lf ≤ c.toNat ∧ (c.toNat : Int) ≤ highU sg lf
  · rw [if_pos h, if_pos (okU_n (by omega) h)]
  · rw [if_neg h, if_neg]
    intro hk
    exact h (okU_more (by omega) hk)
theorem sgn_head (c : UInt8) (t : List UInt8) (h : 194 ≤ c.toNat) (h' : c.toNat < 245) : sgnL (c :: t) = sgnGo (if (c.toNat : Int) < 224 then c.toNat - 192 else if (c.toNat : Int) < 240 then c.toNat - 224 else c.toNat - 240) (if (c.toNat : Int) < 224 then 1 else if (c.toNat : Int) < 240 then 2 else 3) t 1 := by
  rw [sgn_cons, if_pos (okU_0 _ (by omega) 0)]
  have e1 : lfU 0 c.toNat = if (c.toNat : Int) < 224 then 1 else if (c.toNat : Int) < 240 then 2 else 3 := by unfold lfU; rw [if_pos rfl, if_neg (by omega)]
  have e2 : sgU 0 0 c.toNat = if (c.toNat : Int) < 224 then (c.toNat : Int) - 192 else if (c.toNat : Int) < 240 then (c.toNat : Int) - 224 else (c.toNat : Int) - 240 := by unfold sgU; rw [if_pos rfl, if_neg (by omega)]
  rw [e1, e2, if_neg (by (repeat' split) <;> omega)]

/-- Decoding: of the next four bytes, and which of them go on within a sign. -/
def decG (a b c d : Nat) (k1 k2 k3 : Bool) : Nat × Nat :=
  if a < 128 then (a, 1)
  else if a / 32 == 6 && k1 then (if a % 32 * 64 + b % 64 ≥ 128 then (a % 32 * 64 + b % 64, 2) else (65533, 1))
  else if a / 16 == 14 && k1 && k2 then (if a % 16 * 4096 + b % 64 * 64 + c % 64 ≥ 2048 && Utf8.valid (a % 16 * 4096 + b % 64 * 64 + c % 64 : Nat) then (a % 16 * 4096 + b % 64 * 64 + c % 64, 3) else (65533, 1))
  else if a / 8 == 30 && k1 && k2 && k3 then (if a % 8 * 262144 + b % 64 * 4096 + c % 64 * 64 + d % 64 ≥ 65536 && Utf8.valid (a % 8 * 262144 + b % 64 * 4096 + c % 64 * 64 + d % 64 : Nat) then (a % 8 * 262144 + b % 64 * 4096 + c % 64 * 64 + d % 64, 4) else (65533, 1))
  else (65533, 1)
/-- The byte at a place, if it goes on within a sign. -/
def contL (l : List UInt8) (k : Nat) : Bool := match l[k]? with | some c => c.toNat / 64 == 2 | none => false
def decL (l : List UInt8) : Nat × Nat := decG (l.getD 0 0).toNat (l.getD 1 0).toNat (l.getD 2 0).toNat (l.getD 3 0).toNat (contL l 1) (contL l 2) (contL l 3)

theorem decG_cong {a b c d b' c' d' : Nat} {k1 k2 k3 : Bool} (h1 : k1 = true → b = b') (h2 : k2 = true → c = c') (h3 : k3 = true → d = d') : decG a b c d k1 k2 k3 = decG a b' c' d' k1 k2 k3 := by
  cases k1
  · simp [decG]
  · obtain rfl := h1 rfl
    cases k2
    · simp [decG]
    · obtain rfl := h2 rfl
      cases k3
      · simp [decG]
      · obtain rfl := h3 rfl
        rfl

theorem get_drop (s : ByteArray) (i k : Nat) (h : i + k < s.size) : (s.data.toList.drop i)[k]? = some (s.get! (i + k)) := by
  have h' : i + k < s.data.toList.length := h
  have e : s.get! (i + k) = s.data.toList[i + k] := by
    show s.data[i + k]! = _
    rw [getElem!_pos s.data (i + k) h]
    rfl
  rw [e, List.getElem?_drop, List.getElem?_eq_getElem h']
theorem get_none (s : ByteArray) (i k : Nat) (h : ¬ i + k < s.size) : (s.data.toList.drop i)[k]? = none := by
  apply List.getElem?_eq_none
  have : s.data.toList.length = s.size := rfl
  simp
  omega
theorem dec_cont (s : ByteArray) (i k : Nat) : (decide (i + k < s.size) && (s.get! (i + k)).toNat / 64 == 2) = contL (s.data.toList.drop i) k := by
  unfold contL
  by_cases h : i + k < s.size
  · rw [get_drop s i k h]; simp [h]
  · rw [get_none s i k h]; simp [h]
theorem dec_list (s : ByteArray) (i : Nat) (h : i < s.size) : Utf8.decode s i = decL (s.data.toList.drop i) := by
  have h0 : (s.get! (i + 0)).toNat = ((s.data.toList.drop i).getD 0 0).toNat := by rw [List.getD, get_drop s i 0 (by omega)]; rfl
  have e : Utf8.decode s i = decG (s.get! (i + 0)).toNat (s.get! (i + 1)).toNat (s.get! (i + 2)).toNat (s.get! (i + 3)).toNat (decide (i + 1 < s.size) && (s.get! (i + 1)).toNat / 64 == 2) (decide (i + 2 < s.size) && (s.get! (i + 2)).toNat / 64 == 2) (decide (i + 3 < s.size) && (s.get! (i + 3)).toNat / 64 == 2) := rfl
  have hk : ∀ k, contL (s.data.toList.drop i) k = true → (s.get! (i + k)).toNat = ((s.data.toList.drop i).getD k 0).toNat := by
    intro k hk
    by_cases hh : i + k < s.size
    · rw [List.getD, get_drop s i k hh]; rfl
    · unfold contL at hk
      rw [get_none s i k hh] at hk
      cases hk
  rw [e, dec_cont, dec_cont, dec_cont, h0]
  exact decG_cong (hk 1) (hk 2) (hk 3)

theorem val_iff (n : Nat) : Utf8.valid (n : Nat) = decide (n < 55296 ∨ 57344 ≤ n ∧ n ≤ 1114111) := by
  unfold Utf8.valid
  rw [Bool.eq_iff_iff]
  simp
  omega

/-- What decoding has to do with the first sign. -/
def DecOk (l : List UInt8) (d : Nat × Nat) : Prop := (sgnL l = 0 ∧ d = (65533, 1)) ∨ (sgnL l ≠ 0 ∧ d.2 = sgnL l ∧ ofB d.1 = l.take (sgnL l) ∧ Sgn d.1)

theorem dec_sgn (c : UInt8) (t : List UInt8) : DecOk (c :: t) (decL (c :: t)) := by
  have hc := UInt8.toNat_lt c
  unfold DecOk
  have e0 : decL (c :: t) = decG c.toNat (t.getD 0 0).toNat (t.getD 1 0).toNat (t.getD 2 0).toNat (contL t 0) (contL t 1) (contL t 2) := rfl
  rw [e0]
  have hh : c.toNat < 128 ∨ (128 ≤ c.toNat ∧ c.toNat < 192) ∨ (192 ≤ c.toNat ∧ c.toNat < 194) ∨ (194 ≤ c.toNat ∧ c.toNat < 224) ∨ (224 ≤ c.toNat ∧ c.toNat < 240) ∨ (240 ≤ c.toNat ∧ c.toNat < 245) ∨ (245 ≤ c.toNat ∧ c.toNat < 248) ∨ 248 ≤ c.toNat := by omega
  rcases hh with h | h | h | h | h | h | h | h
  · refine .inr ?_
    rw [sgn_small c t h]
    unfold decG
    rw [if_pos h]
    exact ⟨by decide, rfl, ofB_one (by simp; omega) rfl, by unfold Sgn; simp; omega⟩
  · refine .inl ⟨sgn_none c t (by omega), ?_⟩
    unfold decG
    have a1 : (c.toNat / 32 == 6) = false := by simp; omega
    have a2 : (c.toNat / 16 == 14) = false := by simp; omega
    have a3 : (c.toNat / 8 == 30) = false := by simp; omega
    rw [if_neg (by omega)]
    simp [a1, a2, a3]
  · refine .inl ⟨sgn_none c t (by omega), ?_⟩
    unfold decG
    have a2 : (c.toNat / 16 == 14) = false := by simp; omega
    have a3 : (c.toNat / 8 == 30) = false := by simp; omega
    rw [if_neg (by omega)]
    have hx : ∀ x : Nat, ¬ c.toNat % 32 * 64 + x % 64 ≥ 128 := fun x => by omega
    simp only [a2, a3, Bool.false_and, Bool.false_eq_true, if_false, if_neg (hx _)]
    simp
  · -- two bytes
    rw [sgn_head c t (by omega) (by omega), if_pos (by omega), if_pos (by omega), sgn_last]
    have a1 : (c.toNat / 32 == 6) = true := by simp; omega
    have a2 : (c.toNat / 16 == 14) = false := by simp; omega
    have a3 : (c.toNat / 8 == 30) = false := by simp; omega
    cases t with
    | nil => exact .inl ⟨rfl, by unfold decG; rw [if_neg (by omega)]; simp [a2, a3, contL]⟩
    | cons b t =>
      have hb := UInt8.toNat_lt b
      have k0 : contL (b :: t) 0 = (b.toNat / 64 == 2) := rfl
      rw [k0]
      by_cases hP : 128 ≤ b.toNat ∧ b.toNat ≤ 191
      · have k1 : (b.toNat / 64 == 2) = true := by simp; omega
        refine .inr ?_
        simp only [if_pos hP]
        unfold decG
        rw [if_neg (by omega), k1, a1]
        have g : (List.getD (b :: t) 0 0).toNat = b.toNat := rfl
        rw [g, if_pos (show (true && true) = true from rfl), if_pos (by omega)]
        refine ⟨by decide, rfl, ?_, by unfold Sgn; simp; omega⟩
        exact ofB_two (by simp; omega) (by simp; omega) (by simp; omega) (by simp; omega)
      · have k1 : (b.toNat / 64 == 2) = false := by simp; omega
        refine .inl ?_
        simp only [if_neg hP]
        refine ⟨trivial, ?_⟩
        unfold decG
        rw [if_neg (by omega), k1, a2, a3]
        simp
  · -- three bytes
    rw [sgn_head c t (by omega) (by omega), if_neg (by omega), if_pos (by omega), if_neg (by omega), if_pos (by omega)]
    have a1 : (c.toNat / 32 == 6) = false := by simp; omega
    have a2 : (c.toNat / 16 == 14) = true := by simp; omega
    have a3 : (c.toNat / 8 == 30) = false := by simp; omega
    cases t with
    | nil => exact .inl ⟨rfl, by unfold decG; rw [if_neg (by omega)]; simp [a1, a3, contL]⟩
    | cons b t =>
      have hb := UInt8.toNat_lt b
      rw [sgn_more _ _ _ _ _ (by omega)]
      have k0 : contL (b :: t) 0 = (b.toNat / 64 == 2) := rfl
      have kk1 : contL (b :: t) 1 = contL t 0 := rfl
      have g0 : (List.getD (b :: t) 0 0).toNat = b.toNat := rfl
      have g1 : (List.getD (b :: t) 1 0).toNat = (List.getD t 0 0).toNat := rfl
      rw [k0, kk1, g0, g1, show (2 : Int) - 1 = 1 from rfl, sgn_last]
      by_cases hP : 128 ≤ b.toNat ∧ b.toNat ≤ 191
      case neg =>
        have k1 : (b.toNat / 64 == 2) = false := by simp; omega
        refine .inl ⟨if_neg (fun e => hP (by have := lowU_in (c.toNat - 224) 2; have := highU_in (c.toNat - 224) 2; omega)), ?_⟩
        unfold decG
        rw [if_neg (by omega), k1, a1, a3]
        simp
      have k1 : (b.toNat / 64 == 2) = true := by simp; omega
      cases t with
      | nil => exact .inl ⟨by simp, by unfold decG; rw [if_neg (by omega)]; simp [a1, a3, contL]⟩
      | cons d t =>
        have hd := UInt8.toNat_lt d
        have k2 : contL (d :: t) 0 = (d.toNat / 64 == 2) := rfl
        have g2 : (List.getD (d :: t) 0 0).toNat = d.toNat := rfl
        rw [k2, g2]
        by_cases hQ : 128 ≤ d.toNat ∧ d.toNat ≤ 191
        case neg =>
          have k3 : (d.toNat / 64 == 2) = false := by simp; omega
          refine .inl ⟨by simp only [if_neg hQ]; simp, ?_⟩
          unfold decG
          rw [if_neg (by omega), k3, a1, a3]
          simp
        have k3 : (d.toNat / 64 == 2) = true := by simp; omega
        simp only [if_pos hQ]
        have hlo : lowU (c.toNat - 224) 2 = if c.toNat = 224 then 160 else 128 := by unfold lowU; (repeat' split) <;> omega
        have hhi : highU (c.toNat - 224) 2 = if c.toNat = 237 then 159 else 191 := by unfold highU; (repeat' split) <;> omega
        rw [hlo, hhi]
        have hv : (decide (c.toNat % 16 * 4096 + b.toNat % 64 * 64 + d.toNat % 64 ≥ 2048) && Utf8.valid (c.toNat % 16 * 4096 + b.toNat % 64 * 64 + d.toNat % 64 : Nat)) = decide (((if c.toNat = 224 then 160 else 128 : Int) ≤ b.toNat ∧ (b.toNat : Int) ≤ (if c.toNat = 237 then 159 else 191))) := by
          rw [val_iff, Bool.eq_iff_iff]
          simp only [Bool.and_eq_true, decide_eq_true_eq]
          by_cases h1 : c.toNat = 224
          · rw [if_pos h1, if_neg (by omega)]; omega
          · rw [if_neg h1]
            by_cases h2 : c.toNat = 237
            · rw [if_pos h2]; omega
            · rw [if_neg h2]; omega
        have hdec : decG c.toNat b.toNat d.toNat (List.getD (b :: d :: t) 2 0).toNat (b.toNat / 64 == 2) (d.toNat / 64 == 2) (contL (b :: d :: t) 2) = if ((if c.toNat = 224 then 160 else 128 : Int) ≤ b.toNat ∧ (b.toNat : Int) ≤ (if c.toNat = 237 then 159 else 191)) then (c.toNat % 16 * 4096 + b.toNat % 64 * 64 + d.toNat % 64, 3) else (65533, 1) := by
          unfold decG
          rw [if_neg (by omega), a1, a2, k1, k3]
          simp only [Bool.false_and, Bool.false_eq_true, if_false, Bool.and_self, if_true, hv, decide_eq_true_eq]
        rw [hdec]
        by_cases hok : ((if c.toNat = 224 then 160 else 128 : Int) ≤ b.toNat ∧ (b.toNat : Int) ≤ (if c.toNat = 237 then 159 else 191))
        · rw [if_pos hok, if_pos hok]
          have hok' := hv.trans (decide_eq_true hok)
          rw [val_iff] at hok'
          simp only [Bool.and_eq_true, decide_eq_true_eq] at hok'
          refine .inr ⟨by omega, rfl, ?_, by unfold Sgn; simp; omega⟩
          exact ofB_three (by simp; omega) (by simp; omega) (by simp; omega) (by simp; omega) (by simp; omega)
        · rw [if_neg hok, if_neg hok]
          exact .inl ⟨rfl, rfl⟩
  · -- four bytes
    rw [sgn_head c t (by omega) (by omega), if_neg (by omega), if_neg (by omega), if_neg (by omega), if_neg (by omega)]
    have a1 : (c.toNat / 32 == 6) = false := by simp; omega
    have a2 : (c.toNat / 16 == 14) = false := by simp; omega
    have a3 : (c.toNat / 8 == 30) = true := by simp; omega
    cases t with
    | nil => exact .inl ⟨rfl, by unfold decG; rw [if_neg (by omega)]; simp [a1, a2, contL]⟩
    | cons b t =>
      have hb := UInt8.toNat_lt b
      rw [sgn_more _ _ _ _ _ (by omega)]
      have k0 : contL (b :: t) 0 = (b.toNat / 64 == 2) := rfl
      have kk1 : contL (b :: t) 1 = contL t 0 := rfl
      have kk2 : contL (b :: t) 2 = contL t 1 := rfl
      have g0 : (List.getD (b :: t) 0 0).toNat = b.toNat := rfl
      have g1 : (List.getD (b :: t) 1 0).toNat = (List.getD t 0 0).toNat := rfl
      have g2 : (List.getD (b :: t) 2 0).toNat = (List.getD t 1 0).toNat := rfl
      rw [k0, kk1, kk2, g0, g1, g2, show (3 : Int) - 1 = 2 from rfl]
      by_cases hP : 128 ≤ b.toNat ∧ b.toNat ≤ 191
      case neg =>
        have k1 : (b.toNat / 64 == 2) = false := by simp; omega
        refine .inl ⟨if_neg (fun e => hP (by have := lowU_in (c.toNat - 240) 3; have := highU_in (c.toNat - 240) 3; omega)), ?_⟩
        unfold decG
        rw [if_neg (by omega), k1, a1, a2]
        simp
      have k1 : (b.toNat / 64 == 2) = true := by simp; omega
      have hlo : lowU (c.toNat - 240) 3 = if c.toNat = 240 then 144 else 128 := by unfold lowU; (repeat' split) <;> omega
      have hhi : highU (c.toNat - 240) 3 = if c.toNat = 244 then 143 else 191 := by unfold highU; (repeat' split) <;> omega
      rw [hlo, hhi]
      cases t with
      | nil => exact .inl ⟨by simp [sgnGo], by unfold decG; rw [if_neg (by omega)]; simp [a1, a2, contL]⟩
      | cons d t =>
        have hd := UInt8.toNat_lt d
        have k2 : contL (d :: t) 0 = (d.toNat / 64 == 2) := rfl
        have kk3 : contL (d :: t) 1 = contL t 0 := rfl
        have g3 : (List.getD (d :: t) 0 0).toNat = d.toNat := rfl
        have g4 : (List.getD (d :: t) 1 0).toNat = (List.getD t 0 0).toNat := rfl
        rw [k2, kk3, g3, g4, sgn_more _ _ _ _ _ (by omega), show (2 : Int) - 1 = 1 from rfl, sgn_last]
        by_cases hQ : 128 ≤ d.toNat ∧ d.toNat ≤ 191
        case neg =>
          have k3 : (d.toNat / 64 == 2) = false := by simp; omega
          have hq : ∀ sg : Int, ¬ (lowU sg 2 ≤ d.toNat ∧ (d.toNat : Int) ≤ highU sg 2) := fun sg e => hQ (by have := lowU_in sg 2; have := highU_in sg 2; omega)
          refine .inl ⟨by rw [if_neg (hq _)]; simp, ?_⟩
          unfold decG
          rw [if_neg (by omega), k3, a1, a2]
          simp
        have k3 : (d.toNat / 64 == 2) = true := by simp; omega
        have hok2 : (if c.toNat = 240 then 144 else 128 : Int) ≤ b.toNat → (lowU (((c.toNat : Int) - 240) * 64 + (b.toNat - 128)) 2 ≤ d.toNat ∧ (d.toNat : Int) ≤ highU (((c.toNat : Int) - 240) * 64 + (b.toNat - 128)) 2) := by
          intro hge
          by_cases h1 : c.toNat = 240
          · rw [if_pos h1] at hge
            unfold lowU highU
            rw [if_neg (by omega), if_neg (by omega), if_neg (by omega), if_neg (by omega)]
            omega
          · unfold lowU highU
            rw [if_neg (by omega), if_neg (by omega), if_neg (by omega), if_neg (by omega)]
            omega
        cases t with
        | nil => exact .inl ⟨by simp, by unfold decG; rw [if_neg (by omega)]; simp [a1, a2, contL]⟩
        | cons f t =>
          have hf := UInt8.toNat_lt f
          have k4 : contL (f :: t) 0 = (f.toNat / 64 == 2) := rfl
          have g5 : (List.getD (f :: t) 0 0).toNat = f.toNat := rfl
          rw [k4, g5]
          by_cases hR : 128 ≤ f.toNat ∧ f.toNat ≤ 191
          case neg =>
            have k5 : (f.toNat / 64 == 2) = false := by simp; omega
            refine .inl ⟨by simp only [if_neg hR]; simp, ?_⟩
            unfold decG
            rw [if_neg (by omega), k5, a1, a2]
            simp
          have k5 : (f.toNat / 64 == 2) = true := by simp; omega
          simp only [if_pos hR]
          have hv : (decide (c.toNat % 8 * 262144 + b.toNat % 64 * 4096 + d.toNat % 64 * 64 + f.toNat % 64 ≥ 65536) && Utf8.valid (c.toNat % 8 * 262144 + b.toNat % 64 * 4096 + d.toNat % 64 * 64 + f.toNat % 64 : Nat)) = decide (((if c.toNat = 240 then 144 else 128 : Int) ≤ b.toNat ∧ (b.toNat : Int) ≤ (if c.toNat = 244 then 143 else 191))) := by
            rw [val_iff, Bool.eq_iff_iff]
            simp only [Bool.and_eq_true, decide_eq_true_eq]
            by_cases h1 : c.toNat = 240
            · rw [if_pos h1, if_neg (by omega)]; omega
            · rw [if_neg h1]
              by_cases h2 : c.toNat = 244
              · rw [if_pos h2]; omega
              · rw [if_neg h2]; omega
          have hdec : decG c.toNat b.toNat d.toNat f.toNat (b.toNat / 64 == 2) (d.toNat / 64 == 2) (f.toNat / 64 == 2) = if ((if c.toNat = 240 then 144 else 128 : Int) ≤ b.toNat ∧ (b.toNat : Int) ≤ (if c.toNat = 244 then 143 else 191)) then (c.toNat % 8 * 262144 + b.toNat % 64 * 4096 + d.toNat % 64 * 64 + f.toNat % 64, 4) else (65533, 1) := by
            unfold decG
            rw [if_neg (by omega), a1, a2, a3, k1, k3, k5]
            simp only [Bool.false_and, Bool.false_eq_true, if_false, Bool.and_self, if_true, hv, decide_eq_true_eq]
          rw [hdec]
          by_cases hok : ((if c.toNat = 240 then 144 else 128 : Int) ≤ b.toNat ∧ (b.toNat : Int) ≤ (if c.toNat = 244 then 143 else 191))
          · rw [if_pos hok, if_pos hok, if_pos (hok2 hok.1)]
            have hok' := hv.trans (decide_eq_true hok)
            rw [val_iff] at hok'
            simp only [Bool.and_eq_true, decide_eq_true_eq] at hok'
            refine .inr ⟨by omega, rfl, ?_, by unfold Sgn; simp; omega⟩
            exact ofB_le4 (by simp; omega) (by simp; omega) (by simp; omega) (by simp; omega) (by simp; omega)
          · rw [if_neg hok, if_neg hok]
            exact .inl ⟨rfl, rfl⟩
  · refine .inl ⟨sgn_none c t (by omega), ?_⟩
    unfold decG
    have a1 : (c.toNat / 32 == 6) = false := by simp; omega
    have a2 : (c.toNat / 16 == 14) = false := by simp; omega
    have hx : ∀ x y z : Nat, Utf8.valid ((c.toNat % 8 * 262144 + x % 64 * 4096 + y % 64 * 64 + z % 64 : Nat) : Int) = false := fun x y z => by rw [val_iff]; simp; omega
    rw [if_neg (by omega)]
    simp only [a1, a2, hx, Bool.false_and, Bool.and_false, Bool.false_eq_true, if_false]
    simp
  · refine .inl ⟨sgn_none c t (by omega), ?_⟩
    unfold decG
    have a1 : (c.toNat / 32 == 6) = false := by simp; omega
    have a2 : (c.toNat / 16 == 14) = false := by simp; omega
    have a3 : (c.toNat / 8 == 30) = false := by simp; omega
    rw [if_neg (by omega)]
    simp [a1, a2, a3]

end Go.Proofs.Ytaklbbkjhbkieaa

namespace Go.Proofs.Ytaklbbkjhbkieaa
open Go.RowKit

/-- The place of a sign among those that have an escape of one letter; -1: it is none. -/
def idxI (v : Int) : Int := if v = 34 then 0 else if v = 92 then 1 else if v = 8 then 2 else if v = 12 then 3 else if v = 10 then 4 else if v = 13 then 5 else if v = 9 then 6 else -1
/-- The letter at such a place. -/
def letOf (v : Int) : Int := if v = 34 then 34 else if v = 92 then 92 else if v = 8 then 98 else if v = 12 then 102 else if v = 10 then 110 else if v = 13 then 114 else 116
/-- What the string has for a sign. -/
def pieceR (v : Int) : List UInt8 := if 0 ≤ idxI v then [92, UInt8.ofNat (letOf v).toNat] else if v < 32 then [92, 117, 48, 48, lowB (v.toNat / 16), lowB (v.toNat % 16)] else ofB v

theorem piece_sgn (c : UInt8) (t : List UInt8) {d : Nat × Nat} (h : DecOk (c :: t) d) : pieceP (c :: t) (sgnL (c :: t)) = pieceR d.1 ∧ goOn (sgnL (c :: t)) = d.2 ∧ Sgn d.1 := by
  rcases h with ⟨h0, rfl⟩ | ⟨h0, h2, hb, hs⟩
  · rw [h0]
    refine ⟨?_, rfl, by unfold Sgn; omega⟩
    rfl
  · refine ⟨?_, by unfold goOn; rw [if_neg h0, h2], hs⟩
    unfold pieceP
    simp only [if_neg h0]
    by_cases hc : c.toNat < 128
    · have h1 := sgn_small c t hc
      rw [h1] at hb ⊢
      have hv : (d.1 : Int) = c.toNat := by
        have hl := ofB_len d.1
        have hb : ofB d.1 = [c] := hb
        unfold ofB at hb
        obtain ⟨hs0, _, _⟩ := hs
        rcases ofI_is (n := (d.1 : Int)) with ⟨hlt, e⟩ | ⟨_, _, e⟩ | ⟨_, _, e⟩ | ⟨_, e⟩
        · rw [e] at hb
          simp at hb
          have := congrArg UInt8.toNat hb
          simp at this
          omega
        all_goals (rw [e] at hb; simp at hb)
      rw [hv]
      unfold pieceR
      rw [Int.toNat_natCast]
      by_cases he : escB c ≠ 0
      · rw [if_pos he]
        have hc := esc_cases he
        rcases hc with rfl | rfl | rfl | rfl | rfl | rfl | rfl <;> rfl
      · rw [if_neg he]
        have hn : idxI c.toNat = -1 := by
          have he : escB c = 0 := by simpa using he
          unfold escB at he
          have hne : ∀ (k : UInt8) (n : Int), (k.toNat : Int) = n → c ≠ k → ¬ (c.toNat : Int) = n := fun k n hn h e => h (UInt8.toNat_inj.1 (by omega))
          have h1 : c ≠ 34 := fun e => by subst e; exact absurd he (by decide)
          have h2 : c ≠ 92 := fun e => by subst e; exact absurd he (by decide)
          have h3 : c ≠ 8 := fun e => by subst e; exact absurd he (by decide)
          have h4 : c ≠ 12 := fun e => by subst e; exact absurd he (by decide)
          have h5 : c ≠ 10 := fun e => by subst e; exact absurd he (by decide)
          have h6 : c ≠ 13 := fun e => by subst e; exact absurd he (by decide)
          have h7 : c ≠ 9 := fun e => by subst e; exact absurd he (by decide)
          unfold idxI
          rw [if_neg (hne 34 34 rfl h1), if_neg (hne 92 92 rfl h2), if_neg (hne 8 8 rfl h3), if_neg (hne 12 12 rfl h4), if_neg (hne 10 10 rfl h5), if_neg (hne 13 13 rfl h6), if_neg (hne 9 9 rfl h7)]
        rw [hn, if_neg (show ¬ (0 : Int) ≤ -1 by omega)]
        by_cases h32 : c.toNat < 32
        · rw [if_pos h32, if_pos (by omega)]
        · rw [if_neg h32, if_neg (by omega)]
          exact (ofB_one (by omega) rfl).symm
    · have hge : 128 ≤ (d.1 : Int) := by
        by_cases hlt : (d.1 : Int) < 128
        · exfalso
          have hlen : 2 ≤ (ofB d.1).length ∨ 2 ≤ sgnL (c :: t) := by
            right
            rw [sgn_cons] at h0 ⊢
            split at h0
            · rename_i hok
              rw [if_pos hok]
              split at h0
              · rename_i hz
                exfalso
                unfold lfU at hz
                rw [if_pos rfl, if_neg (by omega)] at hz
                revert hz
                (repeat' split) <;> omega
              · rename_i hz
                rw [if_neg hz]
                have := sgn_split _ _ _ _ _ rfl h0
                omega
            · exact absurd rfl h0
          have e : ofB d.1 = [UInt8.ofNat d.1] := by
            unfold ofB
            rcases ofI_is (n := (d.1 : Int)) with ⟨_, e⟩ | ⟨_, _, e⟩ | ⟨_, _, e⟩ | ⟨_, e⟩ <;> first | (rw [e]; rfl) | (exfalso; omega)
          have hsp := sgn_split (c :: t) 0 0 0 _ rfl h0
          have hl := congrArg List.length hb
          rw [e] at hl hlen
          rw [List.length_take] at hl
          have : sgnL (c :: t) ≤ 0 + (c :: t).length := hsp.2
          simp only [List.length_cons, List.length_nil] at hl hlen this
          omega
        · omega
      have he : escB c = 0 := by
        by_cases he : escB c = 0
        · exact he
        · rcases esc_cases he with rfl | rfl | rfl | rfl | rfl | rfl | rfl <;> exact absurd hc (by decide)
      rw [if_neg (by simp [he]), if_neg (by omega), ← hb]
      unfold pieceR
      have hn : idxI d.1 = -1 := by
        unfold idxI
        rw [if_neg (by omega), if_neg (by omega), if_neg (by omega), if_neg (by omega), if_neg (by omega), if_neg (by omega), if_neg (by omega)]
      rw [hn, if_neg (by omega), if_neg (by omega)]

/-- A text's string, one sign further. -/
theorem dput_step (s : ByteArray) (pos f : Nat) (h : pos < s.size) :
    putGo (f + 1) (s.data.toList.drop pos) = pieceR (Utf8.decode s pos).1 ++ putGo f (s.data.toList.drop (pos + (Utf8.decode s pos).2)) ∧ Sgn (Utf8.decode s pos).1 ∧ 1 ≤ (Utf8.decode s pos).2 ∧ pos + (Utf8.decode s pos).2 ≤ s.size := by
  have hl : (s.data.toList.drop pos).length = s.size - pos := by simp
  have hd := dec_list s pos h
  cases hc : s.data.toList.drop pos with
  | nil => rw [hc] at hl; simp at hl; omega
  | cons c t =>
    rw [hc] at hd hl
    have hk := dec_sgn c t
    rw [← hd] at hk
    obtain ⟨h1, h2, h3⟩ := piece_sgn c t hk
    have hp := piece_len c t
    rw [h2] at hp
    refine ⟨?_, h3, hp.2.2, by omega⟩
    show (if c :: t = [] then [] else pieceP (c :: t) (sgnL (c :: t)) ++ putGo f ((c :: t).drop (goOn (sgnL (c :: t))))) = _
    rw [if_neg (by simp), h1, h2, ← hc, List.drop_drop]

theorem pieceR_len (v : Int) : 1 ≤ (pieceR v).length ∧ (pieceR v).length ≤ 6 := by
  have h1 := ofB_pos v
  have h2 := ofB_len v
  unfold pieceR
  split
  · simp
  · split
    · simp
    · omega
theorem putGo_nil (f : Nat) : putGo f [] = [] := by cases f <;> simp [putGo]

end Go.Proofs.Ytaklbbkjhbkieaa

namespace Go.Proofs.Ytaklbbkjhbkieaa
open Go.RowKit
set_option linter.unusedVariables false

/-- Of the blocks that were there only those of F may differ. -/
structure Touch (F : Nat → Prop) (w w' : World) : Prop where
  os : w'.os = w.os
  tape : w'.tape = w.tape
  output : w'.output = w.output
  size : w.heap.size ≤ w'.heap.size
  block : ∀ k, k < w.heap.size → ¬ F k → w'.heap[k]? = w.heap[k]?

section
variable {F G : Nat → Prop} {w w' w'' : World}
theorem Touch.refl (F : Nat → Prop) (w : World) : Touch F w w := ⟨rfl, rfl, rfl, Nat.le_refl _, fun _ _ _ => rfl⟩
theorem Touch.trans (h : Touch F w w') (g : Touch G w' w'') (hs : ∀ k, k < w.heap.size → G k → F k) : Touch F w w'' :=
  ⟨g.os.trans h.os, g.tape.trans h.tape, g.output.trans h.output, Nat.le_trans h.size g.size,
   fun k hk hn => (g.block k (Nat.lt_of_lt_of_le hk h.size) (fun e => hn (hs k hk e))).trans (h.block k hk hn)⟩
theorem Touch.mono (h : Touch F w w') (hs : ∀ k, k < w.heap.size → F k → G k) : Touch G w w' :=
  ⟨h.os, h.tape, h.output, h.size, fun k hk hn => h.block k hk (fun e => hn (hs k hk e))⟩
theorem Touch.of_below {B : Nat} (h : Below B w w') (hs : ∀ k, k < w.heap.size → B ≤ k → F k) : Touch F w w' :=
  ⟨h.os, h.tape, h.output, h.size, fun k hk hn => h.block k (by
    by_cases hb : k < B
    · exact hb
    · exact absurd (hs k hk (by omega)) hn)⟩
theorem Touch.of_new (h : Below w.heap.size w w') : Touch F w w' := Touch.of_below h (fun k hk hB => absurd hB (by omega))
theorem Touch.below {B : Nat} (h : Touch F w w') (hs : ∀ k, k < w.heap.size → F k → B ≤ k) (hB : B ≤ w.heap.size) : Below B w w' :=
  ⟨h.os, h.tape, h.output, h.size, fun k hk => h.block k (by omega) (fun e => by have := hs k (by omega) e; omega)⟩
theorem Touch.of_turned {b : Nat} (h : Turned b w w') (hb : F b) : Touch F w w' :=
  ⟨h.1, h.2.1, h.2.2.1, h.2.2.2.1, fun k hk hn => h.2.2.2.2 k hk (fun e => hn (e ▸ hb))⟩
theorem Touch.alloc (h : Touch F w w') (o : Obj) : Touch F w (w'.alloc o) :=
  h.trans (Touch.of_new (F := F) ((Below.refl _ _).alloc (Nat.le_refl _) o)) (fun _ _ h => h)
theorem Touch.drewN (h : Touch F w w') (q : Nat) : Touch F w (w'.drewN q) := ⟨h.os, h.tape, h.output, h.size, h.block⟩
theorem Touch.setCell (h : Touch F w w') {p : Addr} (hp : F p.block ∨ w.heap.size ≤ p.block) (u : Value) : Touch F w (w'.setCell p u) :=
  ⟨h.os, h.tape, h.output, by have := h.size; simp [World.setCell]; omega, fun k hk hn => (Below.heap_setCell w' p u k (fun e => by
    rcases hp with hp | hp
    · exact hn (e ▸ hp)
    · omega)).trans (h.block k hk hn)⟩
theorem Touch.grown {row : Option Nat} (h : Touch F w w') (hg : w'.grownBy w'' row) (hr : ∀ k, row = some k → F k ∨ w.heap.size ≤ k) : Touch F w w'' :=
  ⟨hg.os.trans h.os, hg.tape.trans h.tape, hg.output.trans h.output, Nat.le_trans h.size hg.size, fun k hk hn => (hg.block k (Nat.lt_of_lt_of_le hk h.size) (fun e => by
    rcases hr k e.symm with hh | hh
    · exact hn hh
    · omega)).trans (h.block k hk hn)⟩
theorem Touch.own {b : Nat} {t : TypeId} {cs : Array Value} (h : Touch F w w') (ho : Own w b t cs) (hn : ¬ F b) : Own w' b t cs := (h.block b ho.inside hn).trans ho
theorem Touch.row {base : Nat} {e : TypeId} {v : Value} {n : Nat} {xs : List Value} (h : Touch F w w') (ho : w.ownsRow base e 1 v n xs) (hn : ∀ g, v.ownBlock = some g → ¬ F g) : w'.ownsRow base e 1 v n xs := by
  refine ⟨ho.1, ?_⟩
  rcases ho.2 with hh | ⟨g, c, cur, rfl, hb, hg, rest⟩
  · exact .inl hh
  · exact .inr ⟨g, c, cur, rfl, hb, (h.block g (Array.getElem?_eq_some_iff.1 hg).1 (hn g rfl)).trans hg, rest⟩

/-- What a slice of one-cell elements reads as; its cells lie in a block of G. -/
def RdS (w : World) (G : Nat → Prop) (A : Option Addr) (n : Nat) (xs : List Value) : Prop :=
  xs.length = n ∧ (0 < n → ∃ ad : Addr, A = some ad ∧ G ad.block ∧ ∀ j u, xs[j]? = some u → w.cell? (ad.add j) = some u)

variable {A : Option Addr} {n : Nat} {xs : List Value}
theorem RdS.live (h : RdS w G A n xs) : Rd w w.heap.size A n xs :=
  ⟨h.1, fun hn => by
    obtain ⟨ad, e, _, hc⟩ := h.2 hn
    have h0 : 0 < xs.length := by have := h.1; omega
    have := cell_inside (hc 0 xs[0] (List.getElem?_eq_getElem h0))
    rw [add_block] at this
    exact ⟨ad, e, this, hc⟩⟩
theorem RdS.stay (h : RdS w G A n xs) (ht : Touch F w w') (hd : ∀ k, k < w.heap.size → G k → ¬ F k) : RdS w' G A n xs :=
  ⟨h.1, fun hn => by
    obtain ⟨ad, e, hg, hc⟩ := h.2 hn
    refine ⟨ad, e, hg, fun j u hu => ?_⟩
    have := hc j u hu
    have hin := cell_inside this
    rw [add_block] at hin
    rw [World.cell?_of_block (w := w) (by rw [add_block]; exact ht.block _ hin (hd _ hin hg))]
    exact this⟩
theorem RdS.mono (h : RdS w F A n xs) (hs : ∀ k, k < w.heap.size → F k → G k) : RdS w G A n xs :=
  ⟨h.1, fun hn => by
    obtain ⟨ad, e, hg, hc⟩ := h.2 hn
    have h0 : 0 < xs.length := by have := h.1; omega
    have := cell_inside (hc 0 xs[0] (List.getElem?_eq_getElem h0))
    rw [add_block] at this
    exact ⟨ad, e, hs _ this hg, hc⟩⟩
theorem Rd.toS {B : Nat} (h : Rd w B A n xs) : RdS w (· < B) A n xs := h
theorem RdS.of_row {base c : Nat} {e : TypeId} (h : w.ownsRow base e 1 (.slice A n c) n xs) (hG : ∀ g, base ≤ g → g < w.heap.size → G g) : RdS w G A n xs := by
  refine ⟨by simpa using h.1, fun hn => ?_⟩
  have hl := h.lt
  rcases h.2 with ⟨_, h0⟩ | ⟨g, cap, cur, hv, hb, hg, _⟩
  · omega
  · injection hv with hA _ _
    subst hA
    have := hl g rfl
    exact ⟨_, rfl, hG _ this.1 this.2, h.cells (g := g) rfl⟩
end

end Go.Proofs.Ytaklbbkjhbkieaa

namespace Go.Proofs.Ytaklbbkjhbkieaa
open Go.Shelf
def Try.lays169_ren : Go.Shelf.Ren := ⟨fun | 169 => 20 | n => n, fun | 70 => 46 | 9 => 9 | 0 => 0 | 72 => 48 | 37 => 22 | 127 => 74 | 3 => 3 | 5 => 5 | n => n, fun | n => n⟩
theorem Try.lays169 : Go.Proofs.Lays.n169 Try.prog Try.lays169_ren := {
  mixed := by kernel_rfl
  f169 := Try.func20.trans (congrArg some (by kernel_rfl))
  t0 := Try.underlying0
  a0 := Try.isAgg0
  z0 := Try.sizeOf0
  v0 := Try.zeroValue0
  t3 := Try.underlying3
  a3 := Try.isAgg3
  z3 := Try.sizeOf3
  v3 := Try.zeroValue3
  t9 := Try.underlying9
  a9 := Try.isAgg9
  z9 := Try.sizeOf9
  v9 := Try.zeroValue9
  t37 := Try.underlying22
  a37 := Try.isAgg22
  z37 := Try.sizeOf22
  v37 := Try.zeroValue22
  t70 := Try.underlying46
  a70 := Try.isAgg46
  z70 := Try.sizeOf46
  v70 := Try.zeroValue46
  t72 := Try.underlying48
  a72 := Try.isAgg48
  z72 := Try.sizeOf48
  v72 := Try.zeroValue48
  t127 := Try.underlying74
  a127 := Try.isAgg74
  z127 := Try.sizeOf74
  v127 := Try.zeroValue74 }
theorem Try.Builder_Extra_169 : Builder.Extra Try.prog Try.lays169_ren := {
  sizeBuilder := by kernel_rfl
  liesBuilder := by kernel_rfl
  t5 := Try.underlying5
  a5 := Try.isAgg5
  z5 := Try.sizeOf5
  v5 := Try.zeroValue5
  infoByte := by kernel_rfl
  cellsByte := by kernel_rfl
  sizeByte := by kernel_rfl
  neB5 := by decide }
open Go.RowKit in
theorem Try.Builder_String (B b : Nat) (l : List UInt8) (w : World) (h : Lib.IsBuilder 48 5 B b (Lib.byteCells l) w) (h0 : l ≠ []) :
    Calls Try.prog 20 #[.pointer (some ⟨b, 0, none⟩)] w fun e w' => e = .returned (.string ⟨l.toArray⟩) ∧ Below B w w' := Any.Builder_String Try.lays169 Try.Builder_Extra_169 B b l w h h0
open Go.RowKit in
theorem Try.Builder_String_empty (B b : Nat) (w : World) (h : Lib.IsBuilder 48 5 B b [] w) (hBw : B ≤ w.heap.size) :
    Calls Try.prog 20 #[.pointer (some ⟨b, 0, none⟩)] w fun e w' => e = .returned (.string ⟨#[]⟩) ∧ Below B w w' := Any.Builder_String_empty Try.lays169 Try.Builder_Extra_169 B b w h hBw
open Go.RowKit in
theorem Try.Builder_String_any (B b : Nat) (l : List UInt8) (w : World) (h : Lib.IsBuilder 48 5 B b (Lib.byteCells l) w) (hBw : B ≤ w.heap.size) :
    Calls Try.prog 20 #[.pointer (some ⟨b, 0, none⟩)] w fun e w' => e = .returned (.string ⟨l.toArray⟩) ∧ Below B w w' := Any.Builder_String_any Try.lays169 Try.Builder_Extra_169 B b l w h hBw
def Try.lays119_ren : Go.Shelf.Ren := ⟨fun | 119 => 59 | n => n, fun | 21 => 21 | 4 => 4 | n => n, fun | n => n⟩
theorem Try.lays119 : Go.Proofs.Lays.n119 Try.prog Try.lays119_ren := {
  mixed := by kernel_rfl
  f119 := Try.func59.trans (congrArg some (by kernel_rfl))
  t4 := Try.underlying4
  a4 := Try.isAgg4
  z4 := Try.sizeOf4
  v4 := Try.zeroValue4
  t21 := Try.underlying21
  a21 := Try.isAgg21
  z21 := Try.sizeOf21
  v21 := Try.zeroValue21 }
theorem Try.utf8_ValidRune (r : Int) (w : World) :
    Calls Try.prog 59 #[.int .i32 r] w fun e w' => e = .returned (.bool (Lib.validRune r)) ∧ w' = w := Any.utf8_ValidRune Try.lays119 r w
def Try.lays137_ren : Go.Shelf.Ren := ⟨fun | 137 => 58 | 217 => 66 | 266 => 68 | n => n, fun | 9 => 9 | 5 => 5 | 3 => 3 | n => n, fun | n => n⟩
theorem Try.lays137 : Go.Proofs.Lays.n137 Try.prog Try.lays137_ren := {
  mixed := by kernel_rfl
  f137 := Try.func58.trans (congrArg some (by kernel_rfl))
  f217 := Try.func66.trans (congrArg some (by kernel_rfl))
  f266 := Try.func68.trans (congrArg some (by kernel_rfl))
  t3 := Try.underlying3
  a3 := Try.isAgg3
  z3 := Try.sizeOf3
  v3 := Try.zeroValue3
  t5 := Try.underlying5
  a5 := Try.isAgg5
  z5 := Try.sizeOf5
  v5 := Try.zeroValue5
  t9 := Try.underlying9
  a9 := Try.isAgg9
  z9 := Try.sizeOf9
  v9 := Try.zeroValue9 }
open Go.RowKit in
theorem Try.strings_IndexByte (s : ByteArray) (c : Int) (w : World) :
    Calls Try.prog 58 #[.string s, .int .u8 c] w fun e w' => e = .returned (.int .i64 (Lib.indexByte s.data.toList c.toNat.toUInt8)) ∧ w' = w := Any.strings_IndexByte Try.lays137 s c w
open Go.RowKit in
theorem Try.Builder_String_f (B b : Nat) (l : List UInt8) (w : World) (h : Lib.IsBuilderF 48 5 B b (Lib.byteCells l) w) (h0 : l ≠ []) :
    Calls Try.prog 20 #[.pointer (some ⟨b, 0, none⟩)] w fun e w' => e = .returned (.string ⟨l.toArray⟩) ∧ (Lib.IsBuilderF 48 5 B b (Lib.byteCells l) w' ∧ Below B w w') := Any.Builder_String_f Try.lays169 Try.Builder_Extra_169 B b l w h h0
open Go.RowKit in
theorem Try.Builder_String_empty_f (B b : Nat) (w : World) (h : Lib.IsBuilderF 48 5 B b [] w) (hBw : B ≤ w.heap.size) :
    Calls Try.prog 20 #[.pointer (some ⟨b, 0, none⟩)] w fun e w' => e = .returned (.string ⟨#[]⟩) ∧ (Lib.IsBuilderF 48 5 B b [] w' ∧ Below B w w') := Any.Builder_String_empty_f Try.lays169 Try.Builder_Extra_169 B b w h hBw
open Go.RowKit in
theorem Try.Builder_String_any_f (B b : Nat) (l : List UInt8) (w : World) (h : Lib.IsBuilderF 48 5 B b (Lib.byteCells l) w) (hBw : B ≤ w.heap.size) :
    Calls Try.prog 20 #[.pointer (some ⟨b, 0, none⟩)] w fun e w' => e = .returned (.string ⟨l.toArray⟩) ∧ (Lib.IsBuilderF 48 5 B b (Lib.byteCells l) w' ∧ Below B w w') := Any.Builder_String_any_f Try.lays169 Try.Builder_Extra_169 B b l w h hBw
open Go.RowKit in
theorem Try.Builder_String_k (B b : Nat) (l : List UInt8) (w : World) (h : Lib.IsBuilderF 48 5 B b (Lib.byteCells l) w) (h0 : l ≠ []) :
    Calls Try.prog 20 #[.pointer (some ⟨b, 0, none⟩)] w fun e w' => e = .returned (.string ⟨l.toArray⟩) ∧ (Lib.IsBuilderF 48 5 B b (Lib.byteCells l) w' ∧ Below B w w' ∧ Lib.OthersKept 5 (some b) w w') := Any.Builder_String_k Try.lays169 Try.Builder_Extra_169 B b l w h h0
open Go.RowKit in
theorem Try.Builder_String_empty_k (B b : Nat) (w : World) (h : Lib.IsBuilderF 48 5 B b [] w) (hBw : B ≤ w.heap.size) :
    Calls Try.prog 20 #[.pointer (some ⟨b, 0, none⟩)] w fun e w' => e = .returned (.string ⟨#[]⟩) ∧ (Lib.IsBuilderF 48 5 B b [] w' ∧ Below B w w' ∧ Lib.OthersKept 5 (some b) w w') := Any.Builder_String_empty_k Try.lays169 Try.Builder_Extra_169 B b w h hBw
open Go.RowKit in
theorem Try.Builder_String_any_k (B b : Nat) (l : List UInt8) (w : World) (h : Lib.IsBuilderF 48 5 B b (Lib.byteCells l) w) (hBw : B ≤ w.heap.size) :
    Calls Try.prog 20 #[.pointer (some ⟨b, 0, none⟩)] w fun e w' => e = .returned (.string ⟨l.toArray⟩) ∧ (Lib.IsBuilderF 48 5 B b (Lib.byteCells l) w' ∧ Below B w w' ∧ Lib.OthersKept 5 (some b) w w') := Any.Builder_String_any_k Try.lays169 Try.Builder_Extra_169 B b l w h hBw
def Try.lays217_ren : Go.Shelf.Ren := ⟨fun | 217 => 66 | 266 => 68 | n => n, fun | 9 => 9 | 5 => 5 | 3 => 3 | n => n, fun | n => n⟩
theorem Try.lays217 : Go.Proofs.Lays.n217 Try.prog Try.lays217_ren := {
  mixed := by kernel_rfl
  f217 := Try.func66.trans (congrArg some (by kernel_rfl))
  f266 := Try.func68.trans (congrArg some (by kernel_rfl))
  t3 := Try.underlying3
  a3 := Try.isAgg3
  z3 := Try.sizeOf3
  v3 := Try.zeroValue3
  t5 := Try.underlying5
  a5 := Try.isAgg5
  z5 := Try.sizeOf5
  v5 := Try.zeroValue5
  t9 := Try.underlying9
  a9 := Try.isAgg9
  z9 := Try.sizeOf9
  v9 := Try.zeroValue9 }
open Go.RowKit Go.Lib in
theorem Try.stringslite_IndexByte (s : ByteArray) (c : Int) (w : World) :
    Calls Try.prog 66 #[.string s, .int .u8 c] w fun e w' => e = .returned (.int .i64 (Lib.indexByte s.data.toList c.toNat.toUInt8)) ∧ w' = w := Any.stringslite_IndexByte Try.lays217 s c w
def Try.lays224_ren : Go.Shelf.Ren := ⟨fun | 224 => 60 | n => n, fun | 3 => 3 | n => n, fun | n => n⟩
theorem Try.lays224 : Go.Proofs.Lays.n224 Try.prog Try.lays224_ren := {
  mixed := by kernel_rfl
  f224 := Try.func60.trans (congrArg some (by kernel_rfl))
  t3 := Try.underlying3
  a3 := Try.isAgg3
  z3 := Try.sizeOf3
  v3 := Try.zeroValue3 }
open Go.RowKit Go.Lib in
theorem Try.bytealg_Cutover (n : Int) (h0 : 0 ≤ n) (h1 : n < 4611686018427387904) (w : World) :
    Calls Try.prog 60 #[.int .i64 n] w fun e w' => e = .returned (.int .i64 ((n + 16) / 8)) ∧ w' = w := Any.bytealg_Cutover Try.lays224 n h0 h1 w
def Try.lays152_ren : Go.Shelf.Ren := ⟨fun | 152 => 53 | 137 => 58 | 119 => 59 | 224 => 60 | 225 => 61 | 217 => 66 | 266 => 68 | n => n, fun | 9 => 9 | 21 => 21 | 3 => 3 | 4 => 4 | 5 => 5 | 0 => 0 | 46 => 91 | n => n, fun | n => n⟩
theorem Try.lays152 : Go.Proofs.Lays.n152 Try.prog Try.lays152_ren := {
  mixed := by kernel_rfl
  f119 := Try.func59.trans (congrArg some (by kernel_rfl))
  f137 := Try.func58.trans (congrArg some (by kernel_rfl))
  f152 := Try.func53.trans (congrArg some (by kernel_rfl))
  f217 := Try.func66.trans (congrArg some (by kernel_rfl))
  f224 := Try.func60.trans (congrArg some (by kernel_rfl))
  f225 := Try.func61.trans (congrArg some (by kernel_rfl))
  f266 := Try.func68.trans (congrArg some (by kernel_rfl))
  t0 := Try.underlying0
  a0 := Try.isAgg0
  z0 := Try.sizeOf0
  v0 := Try.zeroValue0
  t3 := Try.underlying3
  a3 := Try.isAgg3
  z3 := Try.sizeOf3
  v3 := Try.zeroValue3
  t4 := Try.underlying4
  a4 := Try.isAgg4
  z4 := Try.sizeOf4
  v4 := Try.zeroValue4
  t5 := Try.underlying5
  a5 := Try.isAgg5
  z5 := Try.sizeOf5
  v5 := Try.zeroValue5
  t9 := Try.underlying9
  a9 := Try.isAgg9
  z9 := Try.sizeOf9
  v9 := Try.zeroValue9
  t21 := Try.underlying21
  a21 := Try.isAgg21
  z21 := Try.sizeOf21
  v21 := Try.zeroValue21
  t46 := Try.underlying91
  a46 := Try.isAgg91
  z46 := Try.sizeOf91
  v46 := Try.zeroValue91 }
open Go.RowKit Go.Lib in
theorem Try.strings_IndexRune_ascii (s : ByteArray) (r : Int) (w : World) (h0 : 0 ≤ r) (h1 : r < 128) :
    Calls Try.prog 53 #[.string s, .int .i32 r] w fun e w' => e = .returned (.int .i64 (Lib.indexByte s.data.toList r.toNat.toUInt8)) ∧ w' = w := Any.strings_IndexRune_ascii Try.lays152 s r w h0 h1
end Go.Proofs.Ytaklbbkjhbkieaa

namespace Go.Proofs.Ytaklbbkjhbkieaa
open Go.RowKit
set_option linter.unusedVariables false

/-- The builder in block b holds these bytes; it and they lie in blocks of F. -/
def BldS (w : World) (b : Nat) (F : Nat → Prop) (l : List UInt8) : Prop :=
  ∃ p v : Value, (p = .pointer none ∨ p = .pointer (some ⟨b, 0, none⟩)) ∧ Own w b 48 #[p, v] ∧ w.ownsRowF 0 5 1 v l.length (byteCells l) ∧ F b ∧ ∀ g, v.ownBlock = some g → F g ∧ g ≠ b

section
variable {w w' : World} {b : Nat} {F G : Nat → Prop} {l : List UInt8}
theorem BldS.fresh (w : World) (F : Nat → Prop) (hF : F w.heap.size) : BldS (w.alloc (.cells #[.pointer none, .slice none 0 0] 48)) w.heap.size F [] :=
  ⟨_, _, .inl rfl, Own.fresh _ _ _, ⟨rfl, .inl ⟨rfl, rfl⟩⟩, hF, fun g hg => by simp [Value.ownBlock] at hg⟩
theorem BldS.mono (h : BldS w b F l) (hs : ∀ k, F k → G k) : BldS w b G l := by
  obtain ⟨p, v, hp, ho, hr, hb, hg⟩ := h
  exact ⟨p, v, hp, ho, hr, hs _ hb, fun g e => ⟨hs _ (hg g e).1, (hg g e).2⟩⟩
theorem ownsRowF_touch {base n : Nat} {e : TypeId} {v : Value} {xs : List Value} (h : w.ownsRowF base e 1 v n xs) (ht : Touch G w w') (hn : ∀ g, v.ownBlock = some g → ¬ G g) : w'.ownsRowF base e 1 v n xs := by
  refine ⟨h.1, ?_⟩
  rcases h.2 with hh | ⟨g, c, cur, fz, rfl, hb, hg, rest⟩
  · exact .inl hh
  · exact .inr ⟨g, c, cur, fz, rfl, hb, (ht.block g (Array.getElem?_eq_some_iff.1 hg).1 (hn g rfl)).trans hg, rest⟩
theorem BldS.stay (h : BldS w b F l) (ht : Touch G w w') (hn : ∀ k, k < w.heap.size → F k → ¬ G k) : BldS w' b F l := by
  obtain ⟨p, v, hp, ho, hr, hb, hg⟩ := h
  have hl := hr.lt
  exact ⟨p, v, hp, ht.own ho (hn _ ho.inside hb), ownsRowF_touch hr ht (fun g e => hn g (hl g e).2 (hg g e).1), hb, hg⟩
theorem BldS.inside (h : BldS w b F l) : b < w.heap.size := by
  obtain ⟨p, v, hp, ho, hr, hb, hg⟩ := h
  exact ho.inside
theorem BldS.is (h : BldS w b F l) {B : Nat} (hB : ∀ k, F k → B ≤ k) : Lib.IsBuilderF 48 5 B b (Lib.byteCells l) w := by
  obtain ⟨p, v, hp, ho, hr, hb, hg⟩ := h
  have e : Lib.byteCells l = byteCells l := rfl
  have hr' : w.ownsRowF B 5 1 v (byteCells l).length (byteCells l) := by
    refine ⟨by simp, ?_⟩
    rw [byteCells_length]
    rcases hr.2 with hh | ⟨g, c, cur, fz, rfl, _, hgg, rest⟩
    · exact .inl hh
    · exact .inr ⟨g, c, cur, fz, rfl, hB _ (hg g rfl).1, hgg, rest⟩
  rw [e]
  rcases hp with rfl | rfl
  · exact .inl ⟨hB _ hb, v, ho, hr', fun e => (hg b e).2 rfl⟩
  · exact .inr ⟨hB _ hb, v, ho, hr', fun e => (hg b e).2 rfl⟩
end

theorem ret_iv {k : IntKind} {a b : Int} {v : Value} (h : a = b) : Ending.returned (.tuple #[.int k a, v]) = .returned (.tuple #[.int k b, v]) := by rw [h]
/-- What a writing method leaves. -/
def Wrote (w : World) (b : Nat) (F : Nat → Prop) (l : List UInt8) (v : Value) (e : Ending) (w' : World) : Prop :=
  e = .returned v ∧ BldS w' b (fun k => F k ∨ w.heap.size ≤ k) l ∧ Touch F w w'

theorem bld_size : (Try.prog.info? 48).map (fun i => i.size) = some 2 := by kernel_rfl

set_option maxHeartbeats 1000000 in
set_option maxRecDepth 100000 in
theorem copyCheck_any (b : Nat) (F : Nat → Prop) (l : List UInt8) (w : World) (h : BldS w b F l) :
    Calls Try.prog 46 #[.pointer (some ⟨b, 0, none⟩)] w (Wrote w b F l (.tuple #[])) := by
  obtain ⟨p, v, hp, ho, hr, hb, hg⟩ := h
  obtain ⟨j, hj, hjs⟩ := Option.map_eq_some_iff.1 bld_size
  have c0 := ho.at 0
  have f0 := ho.free 0
  have hsh : w.shape? b = some (48, 2) := by
    have := ho
    unfold Own at this
    simp [World.shape?, this]
  simp at c0
  have HO := Lib.hid ho
  have HR := Lib.hid hr
  have HG := Lib.hid hg
  clear ho hr hg
  rcases hp with rfl | rfl
  · go_enter Try.func46, Try.ntmps46
    go_wp2
    rw [Lib.run_to_unsafe w ⟨b, 0, none⟩ Try.underlying46 Try.underlying88 hj (by rw [hjs]; decide) hsh (Nat.zero_lt_succ 1)]
    simp only [Result.andThen]
    rw [Oper.upon_value]
    go_wp2
    rw [run_callFunc_extern Try.func52 (by kernel_rfl) (by kernel_rfl) (by kernel_rfl) (e := Extern.AbiNoEscape.same) (by kernel_rfl)]
    rw [Lib.run_noEscape]
    simp only [Result.andThen]
    rw [Oper.upon_value]
    go_wp2
    rw [Lib.run_from_unsafe w ⟨b, 0, none⟩ Try.underlying88 Try.underlying46 hj hsh (by kernel_rfl)]
    simp only [Result.andThen]
    rw [Oper.upon_value]
    go_wp2
    go_end0
    refine ⟨rfl, ⟨_, v, .inr rfl, by simpa using HO.out.put 0 (.pointer (some ⟨b, 0, none⟩)), ?_, .inl hb, fun g e => ⟨.inl (HG.out g e).1, (HG.out g e).2⟩⟩, (Touch.refl _ _).setCell (.inl hb) _⟩
    refine ownsRowF_touch HR.out (Touch.setCell (F := fun k => k = b) (Touch.refl _ _) (p := ⟨b, 0, none⟩) (.inl rfl) _) (fun g e => (HG.out g e).2)
  · go_enter Try.func46, Try.ntmps46
    go_wp2
    rw [Lib.run_neq_ptr_same w _ Try.underlying46 hj]
    go_wp2
    go_end0
    exact ⟨rfl, ⟨_, v, .inr rfl, HO.out, HR.out, .inl hb, fun g e => ⟨.inl (HG.out g e).1, (HG.out g e).2⟩⟩, Touch.refl _ _⟩

theorem ownsRowF_form {w : World} {base n : Nat} {e : TypeId} {v : Value} {xs : List Value} (h : w.ownsRowF base e 1 v n xs) (hn : 0 < n) : ∃ g c, v = .slice (some ⟨g, 0, none⟩) n c := by
  rcases h.2 with ⟨_, h0⟩ | ⟨g, cap, cur, fz, hv, _⟩
  · omega
  · exact ⟨g, cap, hv⟩
theorem ownsRowF_slice {w : World} {base n : Nat} {e : TypeId} {v : Value} {xs : List Value} (h : w.ownsRowF base e 1 v n xs) : ∃ a c, v = .slice a n c := by
  rcases h.2 with ⟨hv, h0⟩ | ⟨g, cap, cur, fz, hv, _⟩
  · exact ⟨none, 0, by rw [hv, h0]⟩
  · exact ⟨_, _, hv⟩

theorem nil_row {w : World} {base base' : Nat} {e : TypeId} {n : Nat} {xs : List Value} (h : w.ownsRowF base e 1 (.slice none 0 0) n xs) : w.ownsRowF base' e 1 (.slice none 0 0) n xs := by
  refine ⟨h.1, ?_⟩
  rcases h.2 with hh | ⟨g, c, cur, fz, hv, _⟩
  · exact .inl hh
  · cases hv

section
variable {P : Program}
/-- Where append puts its row: where it lay, or in a new block. -/
theorem append_where (w : World) (t ty e : TypeId) (i : TypeInfo) (z : Value) (ht : P.underlying t = some (.slice e)) (hi : P.info? e = some i) (hz : i.zero = some z)
    (hsize : i.size = 1) (hby : i.bytes = 1) (hzs : z.cells.size = 1) (v : Value) (n : Nat) (xs : List Value) (hown : w.ownsRowF 0 e 1 v n xs)
    (a : Addr) (m c : Nat) (news : List Value) (hl : news.length = m) (hnews : ∀ j u, news[j]? = some u → w.cell? (a.add j) = some u) (h1 : ∀ u ∈ news, u.oneCell' = true)
    (h47 : n + m ≤ 140737488355328) :
    ∃ v' w', (Builtin.append_ #[t, t] ty #[v, .slice (some a) m c]).run P w = .ok v' w' ∧ w'.ownsRowF 0 e 1 v' (n + m) (xs ++ news) ∧ w.grownBy w' v.ownBlock ∧ ∀ k, v'.ownBlock = some k → v.ownBlock = some k ∨ w.heap.size ≤ k := by
  have h63 : n + m ≤ maxLen := by unfold maxLen; omega
  obtain ⟨v', w', r1, r2, r3, _⟩ := run_append_ownF (P := P) w 0 t ty e i z 1 1 ht hi hz hsize hby hzs (by decide) v n xs hown a m c news (by omega) hnews h1 h63 (by omega) (Nat.zero_le _)
  refine ⟨v', w', r1, r2, r3, ?_⟩
  rcases hown.2 with ⟨rfl, rfl⟩ | ⟨g, cap, cur, fz, rfl, hbg, hg, hfz, hnc, hcm, hcs, htake⟩
  · obtain ⟨v2, w2, q1, q2, _⟩ := run_append_ownF (P := P) w w.heap.size t ty e i z 1 1 ht hi hz hsize hby hzs (by decide) (.slice none 0 0) 0 xs (nil_row hown) a m c news (by omega) hnews h1 h63 (by omega) (Nat.le_refl _)
    rw [r1] at q1
    cases q1
    exact fun k hk => .inr (q2.lt k hk).1
  · by_cases hroom : n + m ≤ cap
    · have hr := run_append_roomF (P := P) w t ty e i ht hi g n cap cur fz hg (by rw [hsize]; omega) a m c news (by rw [hsize]; omega) hnews h1 hroom (by rw [hsize]; omega)
      rw [r1] at hr
      cases hr
      exact fun k hk => .inl hk
    · have holds : ∀ j u, xs[j]? = some u → w.cell? ((⟨g, 0, none⟩ : Addr).add j) = some u := hown.cells (g := g) rfl
      have hr := run_append_grow (P := P) w t ty e i z ht hi hz ⟨g, 0, none⟩ n cap xs (by rw [hsize]; exact hown.1) holds a m c news (by rw [hsize]; omega) hnews (by omega) (by omega) (by rw [hby]; exact growslice_fits (by omega) (by omega))
      rw [r1] at hr
      cases hr
      exact fun k hk => .inr (by simp [Value.ownBlock] at hk; omega)

theorem append_where_str (w : World) (t u ty e : TypeId) (i : TypeInfo) (ht : P.underlying t = some (.slice e)) (hu : P.underlying u = some .string) (hi : P.info? e = some i) (hz : i.zero = some (.int .u8 0))
    (hsize : i.size = 1) (hby : i.bytes = 1) (v : Value) (n : Nat) (xs : List Value) (hown : w.ownsRowF 0 e 1 v n xs) (s : ByteArray) (h47 : n + s.size ≤ 140737488355328) :
    ∃ v' w', (Builtin.append_ #[t, u] ty #[v, .string s]).run P w = .ok v' w' ∧ w'.ownsRowF 0 e 1 v' (n + s.size) (xs ++ Lib.strCells s) ∧ w.grownBy w' v.ownBlock ∧ ∀ k, v'.ownBlock = some k → v.ownBlock = some k ∨ w.heap.size ≤ k := by
  have h63 : n + s.size ≤ maxLen := by unfold maxLen; omega
  obtain ⟨v', w', r1, r2, r3, _⟩ := Lib.run_append_own_stringF (P := P) w 0 t u ty e i ht hu hi hz hsize hby v n xs hown s h63 h47 (Nat.zero_le _)
  refine ⟨v', w', r1, r2, r3, ?_⟩
  rcases hown.2 with ⟨rfl, rfl⟩ | ⟨g, cap, cur, fz, rfl, hbg, hg, hfz, hnc, hcm, hcs, htake⟩
  · obtain ⟨v2, w2, q1, q2, _⟩ := Lib.run_append_own_stringF (P := P) w w.heap.size t u ty e i ht hu hi hz hsize hby (.slice none 0 0) 0 xs (nil_row hown) s h63 h47 (Nat.le_refl _)
    rw [r1] at q1
    cases q1
    exact fun k hk => .inr (q2.lt k hk).1
  · by_cases hroom : n + s.size ≤ cap
    · have hr := Lib.run_append_room_stringF (P := P) w t u ty e i ht hu hi hsize g n cap cur fz hg (by omega) s hroom (by omega)
      rw [r1] at hr
      cases hr
      exact fun k hk => .inl hk
    · have holds : ∀ j u, xs[j]? = some u → w.cell? ((⟨g, 0, none⟩ : Addr).add j) = some u := hown.cells (g := g) rfl
      have hr := Lib.run_append_grow_string (P := P) w t u ty e i (.int .u8 0) ht hu hi hz ⟨g, 0, none⟩ n cap xs (by rw [hsize]; exact hown.1) holds s (by omega) (by omega) (by rw [hby]; exact growslice_fits (by omega) (by omega))
      rw [r1] at hr
      cases hr
      exact fun k hk => .inr (by simp [Value.ownBlock] at hk; omega)
end

/-- The operation, for the walk: bytes put behind a builder's. -/
theorem bld_append {w : World} {ops : Array Oper} {rest : List Oper} {o : Oper} {a : Act} {Q : Exit → Act → World → Prop} (hgd : o.guard = none) (s x : Operand)
    (ho : o.op = .call { callee := .builtin .append, args := #[s, x], argTypes := #[22, 22] })
    (v : Value) (n : Nat) (xs : List Value) (hs : a.eval s = v) (hown : w.ownsRowF 0 5 1 v n xs)
    (ad : Addr) (m c : Nat) (news : List Value) (hx : a.eval x = .slice (some ad) m c) (hl : news.length = m) (hnews : ∀ j u, news[j]? = some u → w.cell? (ad.add j) = some u) (h1 : ∀ u ∈ news, u.oneCell' = true)
    (h47 : n + m ≤ 140737488355328)
    (h : ∀ v' w', w'.ownsRowF 0 5 1 v' (n + m) (xs ++ news) → w.grownBy w' v.ownBlock → (∀ k, v'.ownBlock = some k → v.ownBlock = some k ∨ w.heap.size ≤ k) → wpList Try.prog ops Q rest (a.put o.dst v') w') : wpList Try.prog ops Q (o :: rest) a w := by
  obtain ⟨i0, hi, hz0, hz1, hz2⟩ := info_parts byte_info
  refine wpList_plain hgd fun K hK => ?_
  obtain ⟨v', w', hr, h2, h3, h4⟩ := append_where (P := Try.prog) w 22 o.type 5 i0 (.int .u8 0) Try.underlying22 hi hz0 hz1 hz2 rfl v n xs hown ad m c news hl hnews h1 h47
  unfold Oper.wp execOp
  simp only [ho, resolve, invoke, builtin, Sem.run_bind, Sem.run_pure, Result.andThen_ok, List.map_toArray, List.map_cons, List.map_nil, hs, hx, hr]
  exact hK _ _ (h v' w' h2 h3 h4)
theorem bld_append_str {w : World} {ops : Array Oper} {rest : List Oper} {o : Oper} {a : Act} {Q : Exit → Act → World → Prop} (hgd : o.guard = none) (s x : Operand)
    (ho : o.op = .call { callee := .builtin .append, args := #[s, x], argTypes := #[22, 9] })
    (v : Value) (n : Nat) (xs : List Value) (hs : a.eval s = v) (hown : w.ownsRowF 0 5 1 v n xs) (t : ByteArray) (hx : a.eval x = .string t)
    (h47 : n + t.size ≤ 140737488355328)
    (h : ∀ v' w', w'.ownsRowF 0 5 1 v' (n + t.size) (xs ++ Lib.strCells t) → w.grownBy w' v.ownBlock → (∀ k, v'.ownBlock = some k → v.ownBlock = some k ∨ w.heap.size ≤ k) → wpList Try.prog ops Q rest (a.put o.dst v') w') : wpList Try.prog ops Q (o :: rest) a w := by
  obtain ⟨i0, hi, hz0, hz1, hz2⟩ := info_parts byte_info
  refine wpList_plain hgd fun K hK => ?_
  obtain ⟨v', w', hr, h2, h3, h4⟩ := append_where_str (P := Try.prog) w 22 9 o.type 5 i0 Try.underlying22 Try.underlying9 hi hz0 hz1 hz2 v n xs hown t h47
  unfold Oper.wp execOp
  simp only [ho, resolve, invoke, builtin, Sem.run_bind, Sem.run_pure, Result.andThen_ok, List.map_toArray, List.map_cons, List.map_nil, hs, hx, hr]
  exact hK _ _ (h v' w' h2 h3 h4)

theorem strCells_bytes (t : ByteArray) : Lib.strCells t = byteCells t.data.toList := rfl

/-- What is left of a writing method behind its append: the new slice is put into the builder. -/
theorem bld_put {w w1 w2 : World} {b : Nat} {F : Nat → Prop} {l' : List UInt8} {p v v' : Value} (N : Nat) (hp : p = .pointer none ∨ p = .pointer (some ⟨b, 0, none⟩)) (hb : F b) (hN : w.heap.size ≤ N) (hbN : b < N)
    (ho : Own w1 b 48 #[p, v]) (ht : Touch F w w1) (hg : ∀ g, v.ownBlock = some g → (F g ∨ w.heap.size ≤ g) ∧ g ≠ b) (hr : w2.ownsRowF 0 5 1 v' l'.length (byteCells l')) (hgrow : w1.grownBy w2 v.ownBlock)
    (hwh : ∀ k, v'.ownBlock = some k → v.ownBlock = some k ∨ N ≤ k) :
    BldS (w2.setCell ⟨b, 1, none⟩ v') b (fun k => F k ∨ w.heap.size ≤ k) l' ∧ Touch F w (w2.setCell ⟨b, 1, none⟩ v') := by
  have hne : v.ownBlock ≠ some b := fun e => (hg b e).2 rfl
  have ho2 : Own w2 b 48 #[p, v] := (hgrow.block b ho.inside (fun e => hne e.symm)).trans ho
  have ht2 : Touch F w w2 := ht.grown hgrow (fun k hk => (hg k hk).1)
  have hin := ho.inside
  have hne' : ∀ g, v'.ownBlock = some g → (F g ∨ w.heap.size ≤ g) ∧ g ≠ b := fun g hgg => by
    rcases hwh g hgg with h | h
    · exact hg g h
    · exact ⟨.inr (by omega), by omega⟩
  refine ⟨⟨p, v', hp, by simpa using ho2.put 1 v', ?_, .inl hb, hne'⟩, ht2.setCell (.inl hb) _⟩
  exact ownsRowF_touch hr (Touch.setCell (F := fun k => k = b) (Touch.refl _ _) (p := ⟨b, 1, none⟩) (.inl rfl) _) (fun g e => (hne' g e).2)

set_option maxHeartbeats 1000000 in
set_option maxRecDepth 100000 in
theorem writeByte_any (b : Nat) (F : Nat → Prop) (l : List UInt8) (c : UInt8) (w : World) (h : BldS w b F l) (hlen : l.length ≤ 140000000000000) :
    Calls Try.prog 31 #[.pointer (some ⟨b, 0, none⟩), .int .u8 c.toNat] w (Wrote w b F (l ++ [c]) .nilIface) := by
  have HC := Lib.hid (copyCheck_any b F l w h)
  have hin := h.inside
  have hFb : F b := by obtain ⟨p, v, hp, ho, hr, hb, hg⟩ := h; exact hb
  go_enter Try.func31, Try.ntmps31
  go_wp2_with (go_at_call 46; refine HC.out.mono ?_)
  rintro e w1 ⟨rfl, ⟨p, v, hp, ho, hr, hb, hg⟩, ht⟩
  have c0 := ho.at 0
  have c1 := ho.at 1
  simp at c0 c1
  have f1 := ho.free 1
  have HO := Lib.hid ho
  have HG := Lib.hid hg
  have HT := Lib.hid ht
  have hsz := ht.size
  clear ho hg ht
  go_wp2_with (at_builtin; refine bld_append rfl _ _ rfl _ _ _ rfl (hr.alloc _) ⟨w1.heap.size, 0, none⟩ 1 1 [.int .u8 c.toNat] rfl rfl ?c1 ?c2 ?c3 ?_)
  case c1 =>
    intro j u hj
    match j, hj with
    | 0, hj => simp at hj; subst hj; simp [Addr.add]
    | (j + 1), hj => simp at hj
  case c2 => intro u hu; simp at hu; subst hu; rfl
  case c3 => omega
  intro v' w2 hown' hgrow hwh
  have ho1 : Own (w1.alloc (.cells #[.int .u8 c.toNat] 5)) b 48 #[p, v] := HO.out.over _
  have hne : v.ownBlock ≠ some b := fun e => (HG.out b e).2 rfl
  have ho2 : Own w2 b 48 #[p, v] := (hgrow.block b ho1.inside (fun e => hne e.symm)).trans ho1
  have d1 := ho2.at 1
  have g1 := ho2.free 1
  have d0 := ho2.at 0
  simp at d1 d0
  have HO2 := Lib.hid (bld_put w.heap.size hp hFb (Nat.le_refl _) hin ho1 (HT.out.alloc _) HG.out (l' := l ++ [c]) (by simpa [byteCells] using hown') hgrow (fun k hk => (hwh k hk).imp id (fun h => by (try simp at h); omega)))
  obtain ⟨g, cap, rfl⟩ := ownsRowF_form hown' (by omega)
  clear hwh hown' hgrow ho1 ho2 hr
  go_wp2
  go_ret
  exact ⟨rfl, HO2.out⟩


set_option maxHeartbeats 1000000 in
set_option maxRecDepth 100000 in
theorem writeString_any (b : Nat) (F : Nat → Prop) (l : List UInt8) (s : ByteArray) (w : World) (h : BldS w b F l) (hlen : l.length + s.size ≤ 140000000000000) :
    Calls Try.prog 32 #[.pointer (some ⟨b, 0, none⟩), .string s] w (Wrote w b F (l ++ s.data.toList) (.tuple #[.int .i64 s.size, .nilIface])) := by
  have HC := Lib.hid (copyCheck_any b F l w h)
  have hin := h.inside
  have hFb : F b := by obtain ⟨p, v, hp, ho, hr, hb, hg⟩ := h; exact hb
  go_enter Try.func32, Try.ntmps32
  go_wp2_with (go_at_call 46; refine HC.out.mono ?_)
  rintro e w1 ⟨rfl, ⟨p, v, hp, ho, hr, hb, hg⟩, ht⟩
  have c0 := ho.at 0
  have c1 := ho.at 1
  simp at c0 c1
  have f1 := ho.free 1
  have HO := Lib.hid ho
  have HG := Lib.hid hg
  have HT := Lib.hid ht
  have hsz := ht.size
  clear ho hg ht
  go_wp2_with (at_builtin; refine bld_append_str rfl _ _ rfl _ _ _ rfl hr s rfl ?c3 ?_)
  case c3 => omega
  intro v' w2 hown' hgrow hwh
  have ho1 := HO.out
  have hne : v.ownBlock ≠ some b := fun e => (HG.out b e).2 rfl
  have ho2 : Own w2 b 48 #[p, v] := (hgrow.block b ho1.inside (fun e => hne e.symm)).trans ho1
  have d1 := ho2.at 1
  have g1 := ho2.free 1
  have d0 := ho2.at 0
  simp at d1 d0
  have HO2 := Lib.hid (bld_put w.heap.size hp hFb (Nat.le_refl _) hin ho1 HT.out HG.out (l' := l ++ s.data.toList) (by rw [byteCells_append, List.length_append]; exact hown') hgrow (fun k hk => (hwh k hk).imp id (fun h => by omega)))
  obtain ⟨a, cap, rfl⟩ := ownsRowF_slice hown'
  clear hwh hown' hgrow ho1 ho2 hr
  go_wp2
  go_ret2
  exact ⟨rfl, HO2.out⟩

/-- What AppendRune leaves. -/
def Appended (w : World) (v : Value) (n : Nat) (xs news : List Value) (e : Ending) (w' : World) : Prop :=
  ∃ v', e = .returned v' ∧ w'.ownsRowF 0 5 1 v' (n + news.length) (xs ++ news) ∧ (∃ o, (w.alloc o).grownBy w' v.ownBlock) ∧ ∀ k, v'.ownBlock = some k → v.ownBlock = some k ∨ w.heap.size ≤ k

theorem numCells (ns : List Int) : ∀ u ∈ ns.map (Value.int .u8), u.oneCell' = true := by
  intro u hu
  obtain ⟨n, _, rfl⟩ := List.mem_map.1 hu
  rfl

set_option maxHeartbeats 1000000 in
set_option maxRecDepth 100000 in
theorem arn_two (v : Value) (n : Nat) (xs : List Value) (r : Int) (h0 : 128 ≤ r) (h1 : r ≤ 2047) (w : World) (hown : w.ownsRowF 0 5 1 v n xs) (hlen : n ≤ 140000000000000) :
    Calls Try.prog 67 #[v, .int .i32 r] w (Appended w v n xs [.int .u8 (192 + r / 64), .int .u8 (128 + r % 64)]) := by
  go_enter Try.func67, Try.ntmps67
  go_wp2_with (at_builtin; refine bld_append rfl _ _ rfl _ _ _ rfl (hown.alloc _) ⟨w.heap.size, 0, none⟩ 2 2 [.int .u8 (192 + r / 64), .int .u8 (128 + r % 64)] rfl rfl ?c1 ?c2 ?c3 ?_)
  case c1 =>
    intro j u hj
    match j, hj with
    | 0, hj => simp at hj; subst hj; simp [Addr.add]
    | 1, hj => simp at hj; subst hj; simp [Addr.add]
    | (j + 2), hj => simp at hj
  case c2 => exact numCells [192 + r / 64, 128 + r % 64]
  case c3 => omega
  intro v' w2 hown' hgrow hwh
  have hwh' : ∀ k, v'.ownBlock = some k → v.ownBlock = some k ∨ w.heap.size ≤ k := fun k hk => (hwh k hk).imp id (fun h => by (try simp at h); omega)
  clear hwh
  go_wp2
  go_ret
  exact ⟨_, rfl, hown', ⟨_, hgrow⟩, hwh'⟩

set_option maxHeartbeats 1000000 in
set_option maxRecDepth 100000 in
theorem arn_three_lo (v : Value) (n : Nat) (xs : List Value) (r : Int) (h0 : 2048 ≤ r) (h1 : r < 55296) (w : World) (hown : w.ownsRowF 0 5 1 v n xs) (hlen : n ≤ 140000000000000) :
    Calls Try.prog 67 #[v, .int .i32 r] w (Appended w v n xs [.int .u8 (224 + r / 4096), .int .u8 (128 + r / 64 % 64), .int .u8 (128 + r % 64)]) := by
  go_enter Try.func67, Try.ntmps67
  go_wp2_with (at_builtin; refine bld_append rfl _ _ rfl _ _ _ rfl (hown.alloc _) ⟨w.heap.size, 0, none⟩ 3 3 [.int .u8 (224 + r / 4096), .int .u8 (128 + r / 64 % 64), .int .u8 (128 + r % 64)] rfl rfl ?c1 ?c2 ?c3 ?_)
  case c1 =>
    intro j u hj
    match j, hj with
    | 0, hj => simp at hj; subst hj; simp [Addr.add]
    | 1, hj => simp at hj; subst hj; simp [Addr.add]
    | 2, hj => simp at hj; subst hj; simp [Addr.add]
    | (j + 3), hj => simp at hj
  case c2 => exact numCells [224 + r / 4096, 128 + r / 64 % 64, 128 + r % 64]
  case c3 => omega
  intro v' w2 hown' hgrow hwh
  have hwh' : ∀ k, v'.ownBlock = some k → v.ownBlock = some k ∨ w.heap.size ≤ k := fun k hk => (hwh k hk).imp id (fun h => by (try simp at h); omega)
  clear hwh
  go_wp2
  go_ret
  exact ⟨_, rfl, hown', ⟨_, hgrow⟩, hwh'⟩

set_option maxHeartbeats 1000000 in
set_option maxRecDepth 100000 in
theorem arn_three_hi (v : Value) (n : Nat) (xs : List Value) (r : Int) (h0 : 57343 < r) (h1 : r ≤ 65535) (w : World) (hown : w.ownsRowF 0 5 1 v n xs) (hlen : n ≤ 140000000000000) :
    Calls Try.prog 67 #[v, .int .i32 r] w (Appended w v n xs [.int .u8 (224 + r / 4096), .int .u8 (128 + r / 64 % 64), .int .u8 (128 + r % 64)]) := by
  go_enter Try.func67, Try.ntmps67
  go_wp2_with (at_builtin; refine bld_append rfl _ _ rfl _ _ _ rfl (hown.alloc _) ⟨w.heap.size, 0, none⟩ 3 3 [.int .u8 (224 + r / 4096), .int .u8 (128 + r / 64 % 64), .int .u8 (128 + r % 64)] rfl rfl ?c1 ?c2 ?c3 ?_)
  case c1 =>
    intro j u hj
    match j, hj with
    | 0, hj => simp at hj; subst hj; simp [Addr.add]
    | 1, hj => simp at hj; subst hj; simp [Addr.add]
    | 2, hj => simp at hj; subst hj; simp [Addr.add]
    | (j + 3), hj => simp at hj
  case c2 => exact numCells [224 + r / 4096, 128 + r / 64 % 64, 128 + r % 64]
  case c3 => omega
  intro v' w2 hown' hgrow hwh
  have hwh' : ∀ k, v'.ownBlock = some k → v.ownBlock = some k ∨ w.heap.size ≤ k := fun k hk => (hwh k hk).imp id (fun h => by (try simp at h); omega)
  clear hwh
  go_wp2
  go_ret
  exact ⟨_, rfl, hown', ⟨_, hgrow⟩, hwh'⟩

set_option maxHeartbeats 1000000 in
set_option maxRecDepth 100000 in
theorem arn_four (v : Value) (n : Nat) (xs : List Value) (r : Int) (h0 : 65536 ≤ r) (h1 : r ≤ 1114111) (w : World) (hown : w.ownsRowF 0 5 1 v n xs) (hlen : n ≤ 140000000000000) :
    Calls Try.prog 67 #[v, .int .i32 r] w (Appended w v n xs [.int .u8 (240 + r / 262144), .int .u8 (128 + r / 4096 % 64), .int .u8 (128 + r / 64 % 64), .int .u8 (128 + r % 64)]) := by
  go_enter Try.func67, Try.ntmps67
  go_wp2_with (at_builtin; refine bld_append rfl _ _ rfl _ _ _ rfl (hown.alloc _) ⟨w.heap.size, 0, none⟩ 4 4 [.int .u8 (240 + r / 262144), .int .u8 (128 + r / 4096 % 64), .int .u8 (128 + r / 64 % 64), .int .u8 (128 + r % 64)] rfl rfl ?c1 ?c2 ?c3 ?_)
  case c1 =>
    intro j u hj
    match j, hj with
    | 0, hj => simp at hj; subst hj; simp [Addr.add]
    | 1, hj => simp at hj; subst hj; simp [Addr.add]
    | 2, hj => simp at hj; subst hj; simp [Addr.add]
    | 3, hj => simp at hj; subst hj; simp [Addr.add]
    | (j + 4), hj => simp at hj
  case c2 => exact numCells [240 + r / 262144, 128 + r / 4096 % 64, 128 + r / 64 % 64, 128 + r % 64]
  case c3 => omega
  intro v' w2 hown' hgrow hwh
  have hwh' : ∀ k, v'.ownBlock = some k → v.ownBlock = some k ∨ w.heap.size ≤ k := fun k hk => (hwh k hk).imp id (fun h => by (try simp at h); omega)
  clear hwh
  go_wp2
  go_ret
  exact ⟨_, rfl, hown', ⟨_, hgrow⟩, hwh'⟩

/-- A number that the language has a sign for. -/
def Rn (r : Int) : Prop := 0 ≤ r ∧ r ≤ 1114111 ∧ (r < 55296 ∨ 57343 < r)

theorem arn_any (v : Value) (n : Nat) (xs : List Value) (r : Int) (h : Rn r) (h0 : 128 ≤ r) (w : World) (hown : w.ownsRowF 0 5 1 v n xs) (hlen : n ≤ 140000000000000) :
    Calls Try.prog 67 #[v, .int .i32 r] w (Appended w v n xs (Lib.runeCells r)) := by
  unfold Lib.runeCells
  obtain ⟨_, h1, h2⟩ := h
  by_cases a : r ≤ 2047
  · rw [Lib.encodeRuneZ_two h0 a]
    exact arn_two v n xs r h0 a w hown hlen
  by_cases b : r < 55296
  · rw [Lib.encodeRuneZ_three (by omega)]
    exact arn_three_lo v n xs r (by omega) b w hown hlen
  by_cases c : r ≤ 65535
  · rw [Lib.encodeRuneZ_three (by omega)]
    exact arn_three_hi v n xs r (by omega) c w hown hlen
  · rw [Lib.encodeRuneZ_four (by omega) h1]
    exact arn_four v n xs r (by omega) h1 w hown hlen

set_option maxHeartbeats 1000000 in
set_option maxRecDepth 100000 in
theorem appendRune_any (v : Value) (n : Nat) (xs : List Value) (r : Int) (h : Rn r) (w : World) (hown : w.ownsRowF 0 5 1 v n xs) (hlen : n ≤ 140000000000000) :
    Calls Try.prog 62 #[v, .int .i32 r] w (Appended w v n xs (Lib.runeCells r)) := by
  have h0 : 0 ≤ r := h.1
  have h1 : r ≤ 1114111 := h.2.1
  by_cases h7 : r ≤ 127
  · have e : Lib.runeCells r = [.int .u8 r] := by unfold Lib.runeCells; rw [Lib.encodeRuneZ_one h0 h7]; rfl
    rw [e]
    clear e h
    go_enter Try.func62, Try.ntmps62
    go_wp2_with (at_builtin; refine bld_append rfl _ _ rfl _ _ _ rfl (hown.alloc _) ⟨w.heap.size, 0, none⟩ 1 1 [.int .u8 r] rfl rfl ?c1 ?c2 ?c3 ?_)
    case c1 =>
      intro j u hj
      match j, hj with
      | 0, hj => simp at hj; subst hj; simp [Addr.add]
      | (j + 1), hj => simp at hj
    case c2 => exact numCells [r]
    case c3 => omega
    intro v' w2 hown' hgrow hwh
    have hwh' : ∀ k, v'.ownBlock = some k → v.ownBlock = some k ∨ w.heap.size ≤ k := fun k hk => (hwh k hk).imp id (fun h => by (try simp at h); omega)
    clear hwh
    go_wp2
    go_ret
    exact ⟨_, rfl, hown', ⟨_, hgrow⟩, hwh'⟩
  · have HA := Lib.hid (arn_any v n xs r h (by omega) w hown hlen)
    have h7' : 127 < r := by omega
    clear hown h
    go_enter Try.func62, Try.ntmps62
    go_wp2_with (go_at_call 67; refine HA.out.mono ?_)
    rintro e w1 ⟨v', rfl, hh⟩
    have HH := Lib.hid hh
    clear hh
    go_wp2
    go_ret
    exact ⟨_, rfl, HH.out⟩

set_option maxHeartbeats 1000000 in
set_option maxRecDepth 100000 in
theorem writeRune_any (b : Nat) (F : Nat → Prop) (l : List UInt8) (r : Int) (h : Rn r) (w : World) (hB : BldS w b F l) (hlen : l.length ≤ 130000000000000) :
    Calls Try.prog 55 #[.pointer (some ⟨b, 0, none⟩), .int .i32 r] w (Wrote w b F (l ++ Lib.encodeRune r) (.tuple #[.int .i64 (Lib.encodeRune r).length, .nilIface])) := by
  have HC := Lib.hid (copyCheck_any b F l w hB)
  have hin := hB.inside
  have hFb : F b := by obtain ⟨p, v, hp, ho, hr, hb, hg⟩ := hB; exact hb
  clear hB
  go_enter Try.func55, Try.ntmps55
  go_wp2_with (go_at_call 46; refine HC.out.mono ?_)
  rintro e w1 ⟨rfl, ⟨p, v, hp, ho, hr, hb, hg⟩, ht⟩
  have HA := Lib.hid (appendRune_any v l.length (byteCells l) r h w1 hr (by omega))
  obtain ⟨a0, cap0, hv0⟩ := ownsRowF_slice hr
  have c0 := ho.at 0
  have c1 := ho.at 1
  simp at c0 c1
  have f1 := ho.free 1
  have HO := Lib.hid ho
  have HG := Lib.hid hg
  have HT := Lib.hid ht
  have hsz := ht.size
  clear ho hg ht hr h HC
  subst hv0
  go_wp2_with (go_at_call 62; refine HA.out.mono ?_)
  rintro e w2 ⟨v', rfl, hown', ⟨o, hgrow⟩, hwh⟩
  have ho1 := HO.out.over o
  have hne : (Value.slice a0 l.length cap0).ownBlock ≠ some b := fun e => (HG.out b e).2 rfl
  have ho2 : Own w2 b 48 #[p, .slice a0 l.length cap0] := (hgrow.block b ho1.inside (fun e => hne e.symm)).trans ho1
  have d1 := ho2.at 1
  have g1 := ho2.free 1
  have d0 := ho2.at 0
  simp at d1 d0
  have hlr : (Lib.runeCells r).length = (Lib.encodeRune r).length := Lib.runeCells_length r
  have hl4 := Lib.runeCells_le r
  have HO2 := Lib.hid (bld_put w.heap.size hp hFb (Nat.le_refl _) hin ho1 (HT.out.alloc _) HG.out (l' := l ++ Lib.encodeRune r)
    (by rw [byteCells_append, List.length_append, ← hlr]; rw [show byteCells (Lib.encodeRune r) = Lib.runeCells r from Lib.byteCells_encodeRune r]; exact hown') hgrow (fun k hk => (hwh k hk).imp id (fun h => by omega)))
  rw [hlr] at hl4 hown'
  generalize (Lib.encodeRune r).length = m at *
  obtain ⟨a, cap, rfl⟩ := ownsRowF_slice hown'
  clear hwh hown' hgrow ho1 ho2 hlr
  go_wp2
  go_ret2
  exact ⟨ret_iv (show (l.length : Int) + m - l.length = m by omega), HO2.out⟩

end Go.Proofs.Ytaklbbkjhbkieaa

namespace Go.Proofs.Ytaklbbkjhbkieaa
open Go.RowKit
set_option linter.unusedVariables false

theorem idx_small (v : Int) (h0 : 0 ≤ v) (h1 : v < 128) (w : World) :
    Calls Try.prog 53 #[.string ⟨#[34, 92, 8, 12, 10, 13, 9]⟩, .int .i32 v] w fun e w' => e = .returned (.int .i64 (idxI v)) ∧ w = w' := by
  refine (Try.strings_IndexRune_ascii _ v w h0 h1).mono ?_
  rintro e w' ⟨rfl, rfl⟩
  refine ⟨ret_i ?_, rfl⟩
  obtain ⟨n, rfl⟩ : ∃ n : Nat, v = n := ⟨v.toNat, by omega⟩
  have hn : n < 128 := by omega
  have : ∀ n : Nat, n < 128 → Lib.indexByte [34, 92, 8, 12, 10, 13, 9] (n : Int).toNat.toUInt8 = idxI n := by decide +kernel
  exact this n hn

theorem ib_none (l : List UInt8) (c : UInt8) (h : ∀ b ∈ l, b.toNat < 128) (hc : 128 ≤ c.toNat) : Lib.indexByte l c = -1 := by
  induction l with
  | nil => rfl
  | cons b t ih =>
    have hb := h b (by simp)
    have hne : (b == c) = false := by
      rw [beq_eq_false_iff_ne]
      intro e
      subst e
      omega
    rw [Lib.indexByte, hne, ih (fun x hx => h x (by simp [hx]))]
    rfl
theorem ibyte_none (s : ByteArray) (hs : ∀ b ∈ s.data.toList, b.toNat < 128) (c : UInt8) (hc : 128 ≤ c.toNat) (w : World) :
    Calls Try.prog 58 #[.string s, .int .u8 c.toNat] w fun e w' => e = .returned (.int .i64 (-1)) ∧ w' = w := by
  have h := Try.strings_IndexByte s c.toNat w
  have e : (c.toNat : Int).toNat.toUInt8 = c := by simp
  rw [e, ib_none _ _ hs hc] at h
  exact h

theorem valid_sgn {v : Int} (h : Sgn v) : Utf8.valid v = true := by
  rw [validRune_eq]
  unfold validRune
  simp
  obtain ⟨a, b, c⟩ := h
  omega
theorem lvalid_sgn {v : Int} (h : Sgn v) : Lib.validRune v = true := by
  unfold Lib.validRune
  obtain ⟨a, b, c⟩ := h
  simp
  omega

set_option maxHeartbeats 1000000 in
set_option maxRecDepth 100000 in
theorem idx_two (v : Int) (h : Sgn v) (h1 : 128 ≤ v) (hne : v ≠ 65533) (rs : ByteArray) (hrs : Utf8.encode v = rs) (hsz : rs.size = 2) (hl : 128 ≤ rs[1].toNat) (w : World) :
    Calls Try.prog 53 #[.string ⟨#[34, 92, 8, 12, 10, 13, 9]⟩, .int .i32 v] w fun e w' => e = .returned (.int .i64 (-1)) ∧ Below w.heap.size w w' := by
  have gv : (v == 65533) = false := beq_eq_false_iff_ne.2 hne
  have hv : Calls Try.prog 59 #[.int .i32 v] w fun e w' => e = .returned (.bool true) ∧ w' = w := by
    have := Try.utf8_ValidRune v w
    rw [lvalid_sgn h] at this
    exact this
  have HV := Lib.hid hv
  clear hv h hne
  go_enter Try.func53, Try.ntmps53
  go_wp2_with (go_at_call 59; refine HV.out.mono ?_; rintro e w' ⟨rfl, rfl⟩)
  go_step3
  go_wp2
  refine wp_loop_rounds 1 ?_
  rw [rounds_succ]
  go_wp2
  go_step3
  go_wp2
  have hlast : 1 < rs.size := by omega
  have g1 : (((ByteArray.mk #[34, 92, 8, 12, 10, 13, 9])[1].toNat : Int) != (rs[1].toNat : Int)) = true := by
    rw [bne_iff_ne]; show (92 : Int) ≠ _; omega
  go_quiet (fail)
  have hb := below_drewN (Below.refl w'.heap.size w') nq
  generalize w'.drewN nq = wq at *
  go_wp2
  have hx : ∀ b ∈ ((ByteArray.mk #[34, 92, 8, 12, 10, 13, 9]).extract 2 7).data.toList, b.toNat < 128 := by decide +kernel
  go_quiet ((go_at_call 58; exact Calls.quiet_of_same (ibyte_none _ hx rs[1] hl _)))
  go_wp2
  rw [Exit.noGoto_ret]
  go_wp2
  rw [Exit.noGoto_ret]
  go_ret
  exact ⟨rfl, below_drewN hb _⟩

set_option maxHeartbeats 1000000 in
set_option maxRecDepth 100000 in
theorem idx_three (v : Int) (h : Sgn v) (h1 : 128 ≤ v) (hne : v ≠ 65533) (rs : ByteArray) (hrs : Utf8.encode v = rs) (hsz : rs.size = 3) (hl : 128 ≤ rs[2].toNat) (w : World) :
    Calls Try.prog 53 #[.string ⟨#[34, 92, 8, 12, 10, 13, 9]⟩, .int .i32 v] w fun e w' => e = .returned (.int .i64 (-1)) ∧ Below w.heap.size w w' := by
  have gv : (v == 65533) = false := beq_eq_false_iff_ne.2 hne
  have hv : Calls Try.prog 59 #[.int .i32 v] w fun e w' => e = .returned (.bool true) ∧ w' = w := by
    have := Try.utf8_ValidRune v w
    rw [lvalid_sgn h] at this
    exact this
  have HV := Lib.hid hv
  clear hv h hne
  go_enter Try.func53, Try.ntmps53
  go_wp2_with (go_at_call 59; refine HV.out.mono ?_; rintro e w' ⟨rfl, rfl⟩)
  go_step3
  go_wp2
  refine wp_loop_rounds 1 ?_
  rw [rounds_succ]
  go_wp2
  go_step3
  go_wp2
  have hlast : 2 < rs.size := by omega
  have g1 : (((ByteArray.mk #[34, 92, 8, 12, 10, 13, 9])[2].toNat : Int) != (rs[2].toNat : Int)) = true := by
    rw [bne_iff_ne]; show (8 : Int) ≠ _; omega
  go_quiet (fail)
  have hb := below_drewN (Below.refl w'.heap.size w') nq
  generalize w'.drewN nq = wq at *
  go_wp2
  have hx : ∀ b ∈ ((ByteArray.mk #[34, 92, 8, 12, 10, 13, 9]).extract 3 7).data.toList, b.toNat < 128 := by decide +kernel
  go_quiet ((go_at_call 58; exact Calls.quiet_of_same (ibyte_none _ hx rs[2] hl _)))
  go_wp2
  rw [Exit.noGoto_ret]
  go_wp2
  rw [Exit.noGoto_ret]
  go_ret
  exact ⟨rfl, below_drewN hb _⟩

set_option maxHeartbeats 1000000 in
set_option maxRecDepth 100000 in
theorem idx_four (v : Int) (h : Sgn v) (h1 : 128 ≤ v) (hne : v ≠ 65533) (rs : ByteArray) (hrs : Utf8.encode v = rs) (hsz : rs.size = 4) (hl : 128 ≤ rs[3].toNat) (w : World) :
    Calls Try.prog 53 #[.string ⟨#[34, 92, 8, 12, 10, 13, 9]⟩, .int .i32 v] w fun e w' => e = .returned (.int .i64 (-1)) ∧ Below w.heap.size w w' := by
  have gv : (v == 65533) = false := beq_eq_false_iff_ne.2 hne
  have hv : Calls Try.prog 59 #[.int .i32 v] w fun e w' => e = .returned (.bool true) ∧ w' = w := by
    have := Try.utf8_ValidRune v w
    rw [lvalid_sgn h] at this
    exact this
  have HV := Lib.hid hv
  clear hv h hne
  go_enter Try.func53, Try.ntmps53
  go_wp2_with (go_at_call 59; refine HV.out.mono ?_; rintro e w' ⟨rfl, rfl⟩)
  go_step3
  go_wp2
  refine wp_loop_rounds 1 ?_
  rw [rounds_succ]
  go_wp2
  go_step3
  go_wp2
  have hlast : 3 < rs.size := by omega
  have g1 : (((ByteArray.mk #[34, 92, 8, 12, 10, 13, 9])[3].toNat : Int) != (rs[3].toNat : Int)) = true := by
    rw [bne_iff_ne]; show (12 : Int) ≠ _; omega
  go_quiet (fail)
  have hb := below_drewN (Below.refl w'.heap.size w') nq
  generalize w'.drewN nq = wq at *
  go_wp2
  have hx : ∀ b ∈ ((ByteArray.mk #[34, 92, 8, 12, 10, 13, 9]).extract 4 7).data.toList, b.toNat < 128 := by decide +kernel
  go_quiet ((go_at_call 58; exact Calls.quiet_of_same (ibyte_none _ hx rs[3] hl _)))
  go_wp2
  rw [Exit.noGoto_ret]
  go_wp2
  rw [Exit.noGoto_ret]
  go_ret
  exact ⟨rfl, below_drewN hb _⟩


theorem esc_ascii : ∀ k : Nat, k < 7 → ∃ h : k < (ByteArray.mk #[34, 92, 8, 12, 10, 13, 9]).size, ((ByteArray.mk #[34, 92, 8, 12, 10, 13, 9])[k]'h).toNat < 128 := by decide

set_option maxHeartbeats 1000000 in
set_option maxRecDepth 100000 in
theorem idx_strange (w : World) :
    Calls Try.prog 53 #[.string ⟨#[34, 92, 8, 12, 10, 13, 9]⟩, .int .i32 65533] w fun e w' => e = .returned (.int .i64 (-1)) ∧ Below w.heap.size w w' := by
  go_enter Try.func53, Try.ntmps53
  go_wp2
  go_loopw [] (fun wr => ∃ k : Nat, k ≤ 7 ∧ wr = w.iter ⟨#[34, 92, 8, 12, 10, 13, 9]⟩ k) (fun wr => 7 - wr.iterPos w.heap.size)
  case atStart => exact ⟨0, by omega, rfl⟩
  case round =>
    obtain ⟨k, hk, rfl⟩ := hrel
    by_cases hlt : k < 7
    · obtain ⟨h1, h2⟩ := esc_ascii k hlt
      have hnx := fun ty => run_next_ascii (P := Try.prog) w ⟨#[34, 92, 8, 12, 10, 13, 9]⟩ k ty h1 h2
      have hne : ((((ByteArray.mk #[34, 92, 8, 12, 10, 13, 9])[k]'h1).toNat : Int) == 65533) = false := beq_eq_false_iff_ne.2 (by omega)
      go_wp2
      go_roundw
      case rel => exact ⟨k + 1, by omega, rfl⟩
      case measure => simp; omega
    · obtain rfl : k = 7 := by omega
      have hnx := fun ty => run_next_end (P := Try.prog) w ⟨#[34, 92, 8, 12, 10, 13, 9]⟩ 7 ty (by decide)
      go_wp2
      go_ret
      exact ⟨rfl, (Below.refl _ _).alloc (Nat.le_refl _) _⟩

/-- IndexRune, of every sign. -/
theorem idx_any (v : Int) (h : Sgn v) (w : World) :
    Calls Try.prog 53 #[.string ⟨#[34, 92, 8, 12, 10, 13, 9]⟩, .int .i32 v] w fun e w' => e = .returned (.int .i64 (idxI v)) ∧ Below w.heap.size w w' := by
  by_cases hs : v < 128
  · refine (idx_small v h.1 hs w).mono ?_
    rintro e w' ⟨rfl, rfl⟩
    exact ⟨rfl, Below.refl _ _⟩
  have hi : idxI v = -1 := by
    unfold idxI
    rw [if_neg (by omega), if_neg (by omega), if_neg (by omega), if_neg (by omega), if_neg (by omega), if_neg (by omega), if_neg (by omega)]
  rw [hi]
  by_cases hf : v = 65533
  · subst hf
    exact idx_strange w
  have h8 : 128 ≤ v := by omega
  obtain ⟨h2, h4, hl⟩ := encode_facts v (valid_sgn h) h8
  generalize hrs : Utf8.encode v = rs at *
  have hh : rs.size = 2 ∨ rs.size = 3 ∨ rs.size = 4 := by omega
  rcases hh with e | e | e
  · have := hl (by omega)
    simp only [e] at this
    exact idx_two v h h8 hf rs hrs e this w
  · have := hl (by omega)
    simp only [e] at this
    exact idx_three v h h8 hf rs hrs e this w
  · have := hl (by omega)
    simp only [e] at this
    exact idx_four v h h8 hf rs hrs e this w

end Go.Proofs.Ytaklbbkjhbkieaa

namespace Go.Proofs.Ytaklbbkjhbkieaa
open Go.RowKit

/-- What Put does. -/
def PutC (T : World → Prop) : Prop := ∀ (s : ByteArray) (w : World), s.size ≤ 4000 → T w →
  Calls Try.prog 33 #[.string s] w fun e w' => e = .returned (.string ⟨(34 :: putL s.data.toList ++ [34]).toArray⟩) ∧ Below w.heap.size w w'
/-- It lasts. -/
def Lasts (T : World → Prop) : Prop := ∀ w w', T w → Below w.heap.size w w' → T w'

end Go.Proofs.Ytaklbbkjhbkieaa

namespace Go.Proofs.Ytaklbbkjhbkieaa
open Go.RowKit
set_option linter.unusedVariables false

/-- What was written since w. -/
def Wr (w : World) (b : Nat) (F : Nat → Prop) (l : List UInt8) (w' : World) : Prop := BldS w' b (fun k => F k ∨ w.heap.size ≤ k) l ∧ Touch F w w'

section
variable {w w1 w2 : World} {b : Nat} {F : Nat → Prop} {l l1 l2 : List UInt8}
theorem Wr.start (h : BldS w b F l) (hb : Below w.heap.size w w1) : Wr w b F l w1 :=
  ⟨(h.stay (G := fun k => w.heap.size ≤ k) (Touch.of_below hb (fun k _ h => h)) (fun k hk _ e => by omega)).mono (fun _ h => .inl h), Touch.of_new hb⟩
theorem Wr.more (h : Wr w b F l1 w1) (g : Wr w1 b (fun k => F k ∨ w.heap.size ≤ k) l2 w2) : Wr w b F l2 w2 := by
  have hs := h.2.size
  refine ⟨g.1.mono (fun k hk => ?_), h.2.trans g.2 (fun k hk e => e.elim id (fun h => by omega))⟩
  rcases hk with (h | h) | h
  · exact .inl h
  · exact .inr h
  · exact .inr (by omega)
end

theorem writeByte_num (b : Nat) (F : Nat → Prop) (l : List UInt8) (c : UInt8) (x : Int) (hx : (c.toNat : Int) = x) (w : World) (h : BldS w b F l) (hlen : l.length ≤ 140000000000000) :
    Calls Try.prog 31 #[.pointer (some ⟨b, 0, none⟩), .int .u8 x] w fun e w' => e = .returned .nilIface ∧ Wr w b F (l ++ [c]) w' := by
  subst hx
  exact (writeByte_any b F l c w h hlen).mono fun e w' h => h
theorem writeRune_of (b : Nat) (F : Nat → Prop) (l : List UInt8) (v : Int) (hv : Sgn v) (w : World) (h : BldS w b F l) (hlen : l.length ≤ 130000000000000) :
    Calls Try.prog 55 #[.pointer (some ⟨b, 0, none⟩), .int .i32 v] w fun e w' => e = .returned (.tuple #[.int .i64 (ofB v).length, .nilIface]) ∧ Wr w b F (l ++ ofB v) w' := by
  have := writeRune_any b F l v hv w h hlen
  rw [ofB_enc hv] at this
  exact this.mono fun e w' h => h
theorem writeString_of (b : Nat) (F : Nat → Prop) (l m : List UInt8) (s : ByteArray) (hs : s.data.toList = m) (w : World) (h : BldS w b F l) (hlen : l.length + s.size ≤ 140000000000000) :
    Calls Try.prog 32 #[.pointer (some ⟨b, 0, none⟩), .string s] w fun e w' => e = .returned (.tuple #[.int .i64 s.size, .nilIface]) ∧ Wr w b F (l ++ m) w' := by
  subst hs
  exact (writeString_any b F l s w h hlen).mono fun e w' h => h

theorem low_is (n : Int) (h0 : 0 ≤ n) (h9 : n ≤ 15) : lowI n = (lowB n.toNat).toNat := by
  obtain ⟨k, rfl⟩ := Int.eq_ofNat_of_zero_le h0
  rw [Int.toNat_natCast, low_toNat k (by omega)]
  unfold lowI
  (repeat' split) <;> omega
theorem lower_of (n : Int) (h0 : 0 ≤ n) (h9 : n ≤ 15) (k : Nat) (hk : n.toNat = k) (w : World) :
    Calls Try.prog 54 #[.int .i64 n] w fun e w' => e = .returned (.int .u8 (lowB k).toNat) ∧ w = w' := by
  subst hk
  rw [← low_is n h0 h9]
  exact lower_any n w

/-- The signs that have an escape of one letter. -/
theorem idx_cases (v : Int) : (v = 34 ∨ v = 92 ∨ v = 8 ∨ v = 12 ∨ v = 10 ∨ v = 13 ∨ v = 9) ∨ idxI v = -1 := by
  unfold idxI
  (repeat' split) <;> omega

set_option maxHeartbeats 2000000 in
set_option maxRecDepth 100000 in
theorem putSign_any (b : Nat) (F : Nat → Prop) (l : List UInt8) (v : Int) (hv : Sgn v) (w : World) (h : BldS w b F l) (hlen : l.length ≤ 100000000000000) :
    Calls Try.prog 47 #[.pointer (some ⟨b, 0, none⟩), .int .i32 v] w fun e w' => e = .returned (.tuple #[]) ∧ Wr w b F (l ++ pieceR v) w' := by
  have HI := idx_any v hv w
  have HH := Lib.hid h
  have t1 : True := trivial
  clear h
  rcases idx_cases v with hh | hi
  · rcases hh with rfl | rfl | rfl | rfl | rfl | rfl | rfl
    all_goals
      replace HI := Lib.hid HI
      clear hv
    · have hp : pieceR 34 = [92, 34] := by decide +kernel
      rw [hp]
      clear hp
      go_enter Try.func47, Try.ntmps47
      go_wp2_with (first
        | (go_at_call 53; refine HI.out.mono ?_; rintro e w1 ⟨rfl, hb1⟩; have h1 := Wr.start HH.out hb1; have H1 := Lib.hid h1; clear h1)
        | (go_at_call 31; clear t1; refine (writeByte_num b _ _ 92 92 rfl _ H1.out.1 (by omega)).mono ?_; rintro e w2 ⟨rfl, h2⟩; have H2 := Lib.hid (H1.out.more h2); clear h2)
        | (go_at_call 31; refine (writeByte_num b _ _ 34 _ rfl _ H2.out.1 (by simp; omega)).mono ?_; rintro e w3 ⟨rfl, h3⟩; have H3 := Lib.hid (H2.out.more h3); clear h3))
      go_end0
      exact ⟨rfl, by have := H3.out; rw [List.append_assoc] at this; exact this⟩
    · have hp : pieceR 92 = [92, 92] := by decide +kernel
      rw [hp]
      clear hp
      go_enter Try.func47, Try.ntmps47
      go_wp2_with (first
        | (go_at_call 53; refine HI.out.mono ?_; rintro e w1 ⟨rfl, hb1⟩; have h1 := Wr.start HH.out hb1; have H1 := Lib.hid h1; clear h1)
        | (go_at_call 31; clear t1; refine (writeByte_num b _ _ 92 92 rfl _ H1.out.1 (by omega)).mono ?_; rintro e w2 ⟨rfl, h2⟩; have H2 := Lib.hid (H1.out.more h2); clear h2)
        | (go_at_call 31; refine (writeByte_num b _ _ 92 _ rfl _ H2.out.1 (by simp; omega)).mono ?_; rintro e w3 ⟨rfl, h3⟩; have H3 := Lib.hid (H2.out.more h3); clear h3))
      go_end0
      exact ⟨rfl, by have := H3.out; rw [List.append_assoc] at this; exact this⟩
    · have hp : pieceR 8 = [92, 98] := by decide +kernel
      rw [hp]
      clear hp
      go_enter Try.func47, Try.ntmps47
      go_wp2_with (first
        | (go_at_call 53; refine HI.out.mono ?_; rintro e w1 ⟨rfl, hb1⟩; have h1 := Wr.start HH.out hb1; have H1 := Lib.hid h1; clear h1)
        | (go_at_call 31; clear t1; refine (writeByte_num b _ _ 92 92 rfl _ H1.out.1 (by omega)).mono ?_; rintro e w2 ⟨rfl, h2⟩; have H2 := Lib.hid (H1.out.more h2); clear h2)
        | (go_at_call 31; refine (writeByte_num b _ _ 98 _ rfl _ H2.out.1 (by simp; omega)).mono ?_; rintro e w3 ⟨rfl, h3⟩; have H3 := Lib.hid (H2.out.more h3); clear h3))
      go_end0
      exact ⟨rfl, by have := H3.out; rw [List.append_assoc] at this; exact this⟩
    · have hp : pieceR 12 = [92, 102] := by decide +kernel
      rw [hp]
      clear hp
      go_enter Try.func47, Try.ntmps47
      go_wp2_with (first
        | (go_at_call 53; refine HI.out.mono ?_; rintro e w1 ⟨rfl, hb1⟩; have h1 := Wr.start HH.out hb1; have H1 := Lib.hid h1; clear h1)
        | (go_at_call 31; clear t1; refine (writeByte_num b _ _ 92 92 rfl _ H1.out.1 (by omega)).mono ?_; rintro e w2 ⟨rfl, h2⟩; have H2 := Lib.hid (H1.out.more h2); clear h2)
        | (go_at_call 31; refine (writeByte_num b _ _ 102 _ rfl _ H2.out.1 (by simp; omega)).mono ?_; rintro e w3 ⟨rfl, h3⟩; have H3 := Lib.hid (H2.out.more h3); clear h3))
      go_end0
      exact ⟨rfl, by have := H3.out; rw [List.append_assoc] at this; exact this⟩
    · have hp : pieceR 10 = [92, 110] := by decide +kernel
      rw [hp]
      clear hp
      go_enter Try.func47, Try.ntmps47
      go_wp2_with (first
        | (go_at_call 53; refine HI.out.mono ?_; rintro e w1 ⟨rfl, hb1⟩; have h1 := Wr.start HH.out hb1; have H1 := Lib.hid h1; clear h1)
        | (go_at_call 31; clear t1; refine (writeByte_num b _ _ 92 92 rfl _ H1.out.1 (by omega)).mono ?_; rintro e w2 ⟨rfl, h2⟩; have H2 := Lib.hid (H1.out.more h2); clear h2)
        | (go_at_call 31; refine (writeByte_num b _ _ 110 _ rfl _ H2.out.1 (by simp; omega)).mono ?_; rintro e w3 ⟨rfl, h3⟩; have H3 := Lib.hid (H2.out.more h3); clear h3))
      go_end0
      exact ⟨rfl, by have := H3.out; rw [List.append_assoc] at this; exact this⟩
    · have hp : pieceR 13 = [92, 114] := by decide +kernel
      rw [hp]
      clear hp
      go_enter Try.func47, Try.ntmps47
      go_wp2_with (first
        | (go_at_call 53; refine HI.out.mono ?_; rintro e w1 ⟨rfl, hb1⟩; have h1 := Wr.start HH.out hb1; have H1 := Lib.hid h1; clear h1)
        | (go_at_call 31; clear t1; refine (writeByte_num b _ _ 92 92 rfl _ H1.out.1 (by omega)).mono ?_; rintro e w2 ⟨rfl, h2⟩; have H2 := Lib.hid (H1.out.more h2); clear h2)
        | (go_at_call 31; refine (writeByte_num b _ _ 114 _ rfl _ H2.out.1 (by simp; omega)).mono ?_; rintro e w3 ⟨rfl, h3⟩; have H3 := Lib.hid (H2.out.more h3); clear h3))
      go_end0
      exact ⟨rfl, by have := H3.out; rw [List.append_assoc] at this; exact this⟩
    · have hp : pieceR 9 = [92, 116] := by decide +kernel
      rw [hp]
      clear hp
      go_enter Try.func47, Try.ntmps47
      go_wp2_with (first
        | (go_at_call 53; refine HI.out.mono ?_; rintro e w1 ⟨rfl, hb1⟩; have h1 := Wr.start HH.out hb1; have H1 := Lib.hid h1; clear h1)
        | (go_at_call 31; clear t1; refine (writeByte_num b _ _ 92 92 rfl _ H1.out.1 (by omega)).mono ?_; rintro e w2 ⟨rfl, h2⟩; have H2 := Lib.hid (H1.out.more h2); clear h2)
        | (go_at_call 31; refine (writeByte_num b _ _ 116 _ rfl _ H2.out.1 (by simp; omega)).mono ?_; rintro e w3 ⟨rfl, h3⟩; have H3 := Lib.hid (H2.out.more h3); clear h3))
      go_end0
      exact ⟨rfl, by have := H3.out; rw [List.append_assoc] at this; exact this⟩
  · rw [hi] at HI
    replace HI := Lib.hid HI
    by_cases h32 : v < 32
    · have h0 : 0 ≤ v := hv.1
      have hp : pieceR v = [92, 117, 48, 48] ++ [lowB (v.toNat / 16)] ++ [lowB (v.toNat % 16)] := by
        unfold pieceR
        rw [hi, if_neg (by omega), if_pos h32]
        rfl
      rw [hp]
      have HP1 := Lib.hid (fun w => lower_of (v / 16) (by omega) (by omega) (v.toNat / 16) (by omega) w)
      have HP2 := Lib.hid (fun w => lower_of (v % 16) (by omega) (by omega) (v.toNat % 16) (by omega) w)
      generalize lowB (v.toNat / 16) = c1 at *
      generalize lowB (v.toNat % 16) = c2 at *
      have t2 : True := trivial
      clear hp hi hv
      go_enter Try.func47, Try.ntmps47
      go_wp2_with (first
        | (go_at_call 53; refine HI.out.mono ?_; rintro e w1 ⟨rfl, hb1⟩; have h1 := Wr.start HH.out hb1; have H1 := Lib.hid h1; clear h1)
        | (go_at_call 32; refine (writeString_of b _ _ [92, 117, 48, 48] _ rfl _ H1.out.1 (by show l.length + 4 ≤ _; omega)).mono ?_; rintro e w2 ⟨rfl, h2⟩; have H2 := Lib.hid (H1.out.more h2); clear h2)
        | (go_at_call 54; clear t1; refine (HP1.out _).mono ?_; rintro e w' ⟨rfl, rfl⟩)
        | (go_at_call 31; clear t2; refine (writeByte_num b _ _ c1 _ rfl _ H2.out.1 (by simp; omega)).mono ?_; rintro e w3 ⟨rfl, h3⟩; have H3 := Lib.hid (H2.out.more h3); clear h3)
        | (go_at_call 54; refine (HP2.out _).mono ?_; rintro e w' ⟨rfl, rfl⟩)
        | (go_at_call 31; refine (writeByte_num b _ _ c2 _ rfl _ H3.out.1 (by simp; omega)).mono ?_; rintro e w4 ⟨rfl, h4⟩; have H4 := Lib.hid (H3.out.more h4); clear h4))
      go_end0
      exact ⟨rfl, by have := H4.out; simp only [List.append_assoc] at this ⊢; exact this⟩
    · have hp : pieceR v = ofB v := by
        unfold pieceR
        rw [hi, if_neg (by omega), if_neg h32]
      rw [hp]
      have h32' : 32 ≤ v := by omega
      have HV := Lib.hid hv
      clear hp hi hv h32
      go_enter Try.func47, Try.ntmps47
      go_wp2_with (first
        | (go_at_call 53; refine HI.out.mono ?_; rintro e w1 ⟨rfl, hb1⟩; have h1 := Wr.start HH.out hb1; have H1 := Lib.hid h1; clear h1)
        | (go_at_call 55; refine (writeRune_of b _ _ v HV.out _ H1.out.1 (by omega)).mono ?_; rintro e w2 ⟨rfl, h2⟩; have H2 := Lib.hid (H1.out.more h2); clear h2))
      go_end0
      exact ⟨rfl, H2.out⟩


theorem BldS.bound {w : World} {b : Nat} {F : Nat → Prop} {l : List UInt8} (h : BldS w b F l) : BldS w b (fun k => F k ∧ k < w.heap.size) l := by
  obtain ⟨p, v, hp, ho, hr, hb, hg⟩ := h
  exact ⟨p, v, hp, ho, hr, ⟨hb, ho.inside⟩, fun g e => ⟨⟨(hg g e).1, (hr.lt g e).2⟩, (hg g e).2⟩⟩
theorem touch_iterAt (w : World) (N : Nat) (s : ByteArray) (pos : Nat) : Touch (fun k => k = N) w (w.iterAt N s pos) :=
  ⟨rfl, rfl, rfl, by rw [Lib.iterAt_size]; exact Nat.le_refl _, fun k _ hn => Lib.iterAt_other w N k s pos hn⟩

/-- Where Put's loop is. -/
def RelPutP (s : ByteArray) (W : World) (N : Nat) (wr : World) : Prop :=
  ∃ (pos f : Nat) (acc : List UInt8), BldS wr W.heap.size (fun k => W.heap.size ≤ k ∧ k ≠ N) acc ∧ wr.heap[N]? = some (.stringIter s pos) ∧ Below W.heap.size W wr ∧
    acc ++ putGo f (s.data.toList.drop pos) = 34 :: putL s.data.toList ∧ s.size ≤ pos + f ∧ pos ≤ s.size ∧ acc.length ≤ 6 * pos + 1

set_option maxHeartbeats 2000000 in
set_option maxRecDepth 100000 in
theorem put_any (s : ByteArray) (W : World) (hs : s.size ≤ 1000000000) :
    Calls Try.prog 33 #[.string s] W fun e w' => e = .returned (.string ⟨(34 :: putL s.data.toList ++ [34]).toArray⟩) ∧ Below W.heap.size W w' := by
  have t1 : True := trivial
  have b0 := BldS.fresh W (fun k => W.heap.size ≤ k) (Nat.le_refl _)
  have B0 := Lib.hid b0
  clear b0
  go_enter Try.func33, Try.ntmps33
  go_wp2_with (go_at_call 31; clear t1; refine (writeByte_num _ _ [] 34 _ rfl _ B0.out (by simp)).mono ?_; rintro e w1 ⟨rfl, h1⟩; have H1 := Lib.hid h1; clear h1)
  have hNB : W.heap.size < w1.heap.size := by have := H1.out.2.size; simp at this; omega
  go_loopw [] (fun wr => RelPutP s W w1.heap.size wr) (fun wr => s.size - wr.iterPos w1.heap.size)
  case atStart =>
    have hb1 := H1.out.1.bound
    refine ⟨0, s.size, [34], ?_, ?_, ?_, rfl, by omega, by omega, by simp⟩
    · refine (BldS.stay (G := fun k => w1.heap.size ≤ k) hb1 (Touch.of_below ((Below.refl _ _).alloc (Nat.le_refl _) _) (fun k _ h => by omega)) (fun k hk h e => by omega)).mono (fun k hk => ⟨?_, ?_⟩)
      · rcases hk.1 with h | h
        · exact h
        · simp at h; omega
      · have := hk.2; omega
    · have := World.iter_heap w1 s 0
      exact this
    · have hT := H1.out.2
      have hb := hT.below (B := W.heap.size) (fun k _ h => h) (by simp)
      exact (((Below.refl _ W).alloc (Nat.le_refl _) _).trans hb).alloc (by omega) _
  case round =>
    obtain ⟨pos, f, acc, hB, hit, hbel, hacc, hfu, hps, hal⟩ := hrel
    have hNw : w1.heap.size < wr.heap.size := (Array.getElem?_eq_some_iff.1 hit).1
    by_cases hp : pos < s.size
    · have hnx : ∀ ty, (Instr.next (.pointer (some ⟨w1.heap.size, 0, none⟩)) true ty).run Try.prog wr = _ := fun ty => Lib.run_next_any_at wr w1.heap.size s pos ty hit hp
      obtain ⟨f, rfl⟩ : ∃ g, f = g + 1 := ⟨f - 1, by omega⟩
      obtain ⟨hst, hsg, hw1, hw2⟩ := dput_step s pos f hp
      rw [hst] at hacc
      obtain ⟨v, hv⟩ : ∃ v : Int, ((Utf8.decode s pos).1 : Int) = v := ⟨_, rfl⟩
      obtain ⟨d, hd⟩ : ∃ d, (Utf8.decode s pos).2 = d := ⟨_, rfl⟩
      rw [hv, hd] at hacc
      rw [hd] at hw1 hw2
      rw [hv] at hsg
      have hti := touch_iterAt wr w1.heap.size s (pos + d)
      have hB2 := hB.stay hti (fun k _ h e => h.2 e)
      have hit2 := Lib.iterAt_heap wr w1.heap.size s pos (pos + d) hit
      have hbel2 := hbel.trans (hti.below (B := W.heap.size) (fun k _ e => by omega) hbel.size)
      have hs2 : (wr.iterAt w1.heap.size s (pos + d)).heap.size = wr.heap.size := Lib.iterAt_size _ _ _ _
      have HP := Lib.hid (putSign_any W.heap.size _ acc v hsg (wr.iterAt w1.heap.size s (pos + d)) hB2 (by omega))
      have hpl := pieceR_len v
      replace hacc := Lib.hid hacc
      replace hit2 := Lib.hid hit2
      replace hs2 := Lib.hid hs2
      have HPR := Lib.hid (show wr.iterPos w1.heap.size = pos by simp [World.iterPos, hit])
      clear hst hsg hB hB2 hti hit
      go_wp2_with (go_at_call 47; refine HP.out.mono ?_; rintro e w2 ⟨rfl, h2⟩; have H2 := Lib.hid h2; clear h2)
      go_roundw
      case rel =>
        obtain ⟨hB3, hT3⟩ := H2.out
        have hs2 := hs2.out
        have hr : RelPutP s W w1.heap.size w2 := by
          refine ⟨pos + d, f, acc ++ pieceR v, hB3.mono (fun k hk => ?_), ?_, ?_, ?_, by omega, hw2, by simp; omega⟩
          · rcases hk with h | h
            · exact h
            · exact ⟨by omega, by omega⟩
          · exact (hT3.block w1.heap.size (by omega) (fun e => e.2 rfl)).trans hit2.out
          · exact hbel2.trans (hT3.below (fun k _ h => h.1) (by omega))
          · rw [List.append_assoc]; exact hacc.out
        exact hr
      case measure =>
        have hT3 := H2.out.2
        have e := (hT3.block w1.heap.size (by rw [hs2.out]; omega) (fun e => e.2 rfl)).trans hit2.out
        have e2 : w2.iterPos w1.heap.size = pos + d := by simp [World.iterPos, e]
        rw [e2, HPR.out]
        omega
    · have hnx : ∀ ty, (Instr.next (.pointer (some ⟨w1.heap.size, 0, none⟩)) true ty).run Try.prog wr = _ := fun ty => Lib.run_next_end_at wr w1.heap.size s pos ty hit hp
      have hnil : s.data.toList.drop pos = [] := List.drop_of_length_le (by show s.size ≤ pos; omega)
      rw [hnil, putGo_nil, List.append_nil] at hacc
      subst hacc
      have t2 : True := trivial
      have HB := Lib.hid hB
      have hlen : (34 :: putL s.data.toList).length ≤ 7000000000 := by omega
      replace hlen := Lib.hid hlen
      clear hB hit hal hfu hnil
      go_wp2_with (first
        | (go_at_call 31; clear t2; refine (writeByte_num _ _ _ 34 _ rfl _ HB.out (by have := hlen.out; omega)).mono ?_; rintro e w2 ⟨rfl, h2⟩; have H2 := Lib.hid h2; clear h2; have hz2 := H2.out.2.size)
        | (go_at_call 20; refine (Try.Builder_String_any_k W.heap.size _ _ _ (BldS.is H2.out.1 (B := W.heap.size) (fun k hk => by rcases hk with h | h; exact h.1; omega)) (by omega)).mono ?_; rintro e w3 ⟨rfl, _, hb3, _⟩))
      go_ret
      exact ⟨rfl, (hbel.trans (H2.out.2.below (fun k _ h => h.1) hbel.size)).trans hb3⟩

end Go.Proofs.Ytaklbbkjhbkieaa
