/- The contracts of utf.Put, utf.Unit, and of the document's Of, Has, Unit. -/
import Derived.Test.YtaklbbkjhbkieaaJ03
import Derived.Outline
import Derived.Deep.DeepMust
import Derived.Laws.Strings
namespace Go.Proofs.Ytaklbbkjhbkieaa
open Go.RowKit

set_option maxHeartbeats 400000 in
theorem has_any (n : Int) (w : World) :
    Calls Try.prog 65 #[.int .i64 n] w fun e w' => e = .returned (.bool (hasI n)) ∧ w = w' := by
  have hh : n < 0 ∨ 1114111 < n ∨ (0 ≤ n ∧ n < 55296) ∨ (55296 ≤ n ∧ n ≤ 57343) ∨ (57343 < n ∧ n ≤ 1114111) := by omega
  rcases hh with h | h | ⟨h, h'⟩ | ⟨h, h'⟩ | ⟨h, h'⟩
  all_goals
    go_enter Try.func65, Try.ntmps65
    go_wp2
    go_ret
    exact ⟨ret_b (by rw [Bool.eq_iff_iff]; simp [hasI] <;> omega), rfl⟩

set_option maxHeartbeats 1000000 in
theorem of_core (n m : Int) (w : World) (hm : fixI n = m) :
    Calls Try.prog 57 #[.int .i64 n] w fun e w' => e = .returned (.slice (some ⟨w.heap.size, 0, none⟩) (ofI m).length (ofI m).length) ∧ Own w' w.heap.size 5 ((ofI m).map (Value.int .u8)).toArray ∧ Below w.heap.size w w' := by
  have hin := fixI_in n
  rw [hm] at hin
  obtain ⟨g0, g9, _⟩ := hin
  have HH := Lib.hid (has_any n)
  by_cases hb : hasI n = true
  · obtain rfl : n = m := by rw [← hm]; unfold fixI; rw [if_pos hb]
    rw [hb] at HH
    clear hb hm
    have hh := @ofI_is n
    rcases hh with ⟨h, e⟩ | ⟨h, h', e⟩ | ⟨h, h', e⟩ | ⟨h, e⟩
    all_goals
      rw [e]
      clear e
      go_enter Try.func57, Try.ntmps57
      go_wp2_with (go_at_call 65; refine (HH.out _).mono ?_; rintro e w' ⟨rfl, rfl⟩)
      go_ret
      exact ⟨rfl, Own.fresh _ _ _, (Below.refl _ _).alloc (Nat.le_refl _) _⟩
  · obtain rfl : m = 65533 := by rw [← hm]; unfold fixI; rw [if_neg hb]
    rw [(by simpa using hb : hasI n = false)] at HH
    clear hb hm
    go_enter Try.func57, Try.ntmps57
    go_wp2_with (go_at_call 65; refine (HH.out _).mono ?_; rintro e w' ⟨rfl, rfl⟩)
    go_ret
    exact ⟨rfl, Own.fresh _ _ _, (Below.refl _ _).alloc (Nat.le_refl _) _⟩

def sizeI (n : Int) : Nat := if n < 128 then 1 else if n < 2048 then 2 else if n < 65536 then 3 else 4
def leadI (n : Int) : Int := if n < 128 then 0 else if n < 2048 then 192 else if n < 65536 then 224 else 240

/-- make and copy: behind them the new block holds what came in, and zeros. -/
theorem put_copy (W : World) (A : Option Addr) (len cap k : Nat) (xs : List Int) (hx : Rd W W.heap.size A len (xs.map (Value.int .u8))) :
    ∃ w', (Builtin.copy_ #[22, 22] 3 #[.slice (some ⟨W.heap.size, 0, none⟩) (len + k) (len + k), .slice A len cap]).run Try.prog (W.alloc (.cells (madeCells #[.int .u8 0] (len + k)) 5)) = .ok (.int .i64 len) w' ∧
      Own w' W.heap.size 5 (xs.map (Value.int .u8) ++ List.replicate k (Value.int .u8 0)).toArray ∧ Below W.heap.size W w' := by
  obtain ⟨i0, hi, hz0, hz1, hz2⟩ := info_parts byte_info
  rw [made_one]
  have hl : xs.length = len := by simpa using hx.1
  obtain ⟨w', h1, h2, h3⟩ := run_copy_rd (P := Try.prog) (ty := 3) (Own.fresh W 5 (List.replicate (len + k) (.int .u8 0)).toArray) (o := 0) (len + k) (len + k) len cap W.heap.size A (xs.map (Value.int .u8))
    Try.underlying22 (by rw [hi]; simp [hz1]) (hx.stay ((Below.refl _ _).alloc (Nat.le_refl _) _)) (ints_one _ _) (by omega) (by simp)
  refine ⟨w', h1, ?_, ((Below.refl _ W).alloc (Nat.le_refl _) _).trans (h3.below (Nat.le_refl _) (by simp))⟩
  simpa using h2

theorem i32_and63 (n : Int) (h0 : 0 ≤ n) (h9 : n ≤ 1114111) : bits .and .i32 n 63 = n % 64 := by
  obtain ⟨a, rfl⟩ := Int.eq_ofNat_of_zero_le h0
  have e1 : (BitVec.ofInt 32 (a : Int)).toNat = a := by rw [BitVec.ofInt_natCast, BitVec.toNat_ofNat]; exact Nat.mod_eq_of_lt (by omega)
  have e2 : (BitVec.ofInt 32 (63 : Int)).toNat = 63 := rfl
  have e3 : a &&& 63 = a % 64 := Nat.and_two_pow_sub_one_eq_mod a 6
  show IntKind.i32.wrap ((BitVec.ofInt 32 (a : Int) &&& BitVec.ofInt 32 (63 : Int)).toNat : Int) = _
  rw [BitVec.toNat_and, e1, e2, e3]
  simp [IntKind.wrap, IntKind.bits, IntKind.signed]
  omega

theorem own_list {w : World} {b : Nat} {t : TypeId} {cs : Array Value} {l : List Value} (h : Own w b t cs) (e : cs = l.toArray) : Own w b t l.toArray := by rw [← e]; exact h

theorem u8_or0 (n : Int) (h0 : 0 ≤ n) (h9 : n < 256) : bits .or .u8 0 n = n := by
  rw [u8_or 0 n (by omega) (by omega) h0 h9]
  simp
  omega

end Go.Proofs.Ytaklbbkjhbkieaa

namespace Go.Proofs.Ytaklbbkjhbkieaa
open Go.RowKit

def wT : ByteArray := ⟨#[116, 114, 117, 101]⟩
def wF : ByteArray := ⟨#[102, 97, 108, 115, 101]⟩
def wN : ByteArray := ⟨#[110, 117, 108, 108]⟩
def tabV : Array Value := #[.string wT, .int .i64 1, .string wF, .int .i64 1, .string wN, .int .i64 0]
/-- The table of words lies in its block. -/
def Tab (w : World) : Prop := ∃ t, Own w 0 t tabV

theorem Tab.cells {w : World} (h : Tab w) : w.cell? ⟨0, 0, none⟩ = some (.string wT) ∧ w.cell? ⟨0, 1, none⟩ = some (.int .i64 1) ∧ w.cell? ⟨0, 2, none⟩ = some (.string wF) ∧
    w.cell? ⟨0, 3, none⟩ = some (.int .i64 1) ∧ w.cell? ⟨0, 4, none⟩ = some (.string wN) ∧ w.cell? ⟨0, 5, none⟩ = some (.int .i64 0) := by
  obtain ⟨t, h⟩ := h
  exact ⟨h.at 0, h.at 1, h.at 2, h.at 3, h.at 4, h.at 5⟩
theorem Tab.stay {w w' : World} {B : Nat} (h : Tab w) (hb : Below B w w') (hB : 0 < B) : Tab w' := by
  obtain ⟨t, h⟩ := h
  exact ⟨t, h.stay hb hB⟩

theorem zT : wT.size = 4 := rfl
theorem zF : wF.size = 5 := rfl
theorem zN : wN.size = 4 := rfl
theorem hdT (h : 0 < wT.size) : (wT[0].toNat : Int) = 116 := rfl
theorem hdF (h : 0 < wF.size) : (wF[0].toNat : Int) = 102 := rfl
theorem hdN (h : 0 < wN.size) : (wN[0].toNat : Int) = 110 := rfl

theorem below3 (w : World) (a b c : Obj) : Below w.heap.size w (((w.alloc a).alloc b).alloc c) :=
  have h := below2 w a b
  h.alloc h.size c

end Go.Proofs.Ytaklbbkjhbkieaa

namespace Go.Proofs.Ytaklbbkjhbkieaa
open Go.RowKit

def lT : List UInt8 := [116, 114, 117, 101]
def lF : List UInt8 := [102, 97, 108, 115, 101]
def lN : List UInt8 := [110, 117, 108, 108]
/-- What a text is for one word: it (1), the beginning of it (0), or neither (2). -/
def hit (lw l : List UInt8) : Int := if l = lw then 1 else if l.length < lw.length ∧ lw.take l.length = l then 0 else 2
/-- What a text is: a word (1), the beginning of one (0), or neither (2). -/
def refL (l : List UInt8) : Int := if hit lT l = 2 then (if hit lF l = 2 then hit lN l else hit lF l) else hit lT l

theorem ba_ext {a b : ByteArray} (h : a.data.toList = b.data.toList) : a = b := by
  cases a with | mk x => cases b with | mk y => exact congrArg ByteArray.mk (Array.toList_inj.1 h)
theorem str_ne {a b : ByteArray} (h : a ≠ b) : (a.toList == b.toList) = false := beq_eq_false_iff_ne.2 fun e => h (ba_ext (by rw [← ByteArray.toList_eq, ← ByteArray.toList_eq, e]))
theorem head_list (s : ByteArray) (k : Nat) : (s.extract 0 k).data.toList = s.data.toList.take k := by
  rw [ByteArray.data_extract, Array.toList_extract, List.extract_eq_take_drop]
  simp
theorem cat_list (s t : ByteArray) : (s ++ t).data.toList = s.data.toList ++ t.data.toList := by simp

theorem hit_one {lw l : List UInt8} (h : hit lw l = 1) : l = lw := by
  unfold hit at h
  split at h
  · assumption
  · split at h <;> cases h
theorem ref_one {l : List UInt8} (h : refL l = 1) : l = lT ∨ l = lF ∨ l = lN := by
  unfold refL at h
  split at h
  · split at h
    · exact .inr (.inr (hit_one h))
    · exact .inr (.inl (hit_one h))
  · exact .inl (hit_one h)

/-- Where one is in a word. -/
def StL (t : ByteArray) (k : Nat) : Prop := (k = 0 ∧ t = ⟨#[]⟩) ∨ ((t = wT ∨ t = wF ∨ t = wN) ∧ 1 ≤ k ∧ k ≤ t.size)

theorem ref_first (c : UInt8) : refL [c] = if c = 116 ∨ c = 102 ∨ c = 110 then 0 else 2 := by
  unfold refL hit lT lF lN
  by_cases h1 : c = 116
  · subst h1; decide
  by_cases h2 : c = 102
  · subst h2; decide
  by_cases h3 : c = 110
  · subst h3; decide
  simp [h1, h2, h3, Ne.symm h1, Ne.symm h2, Ne.symm h3]

theorem refT1 (c : UInt8) : refL [116, c] = if 114 = c then 0 else 2 := by
  by_cases hc : 114 = c
  · subst hc; decide
  · rw [if_neg hc]
    simp [refL, hit, lT, lF, lN, hc, Ne.symm hc]

theorem refT2 (c : UInt8) : refL [116, 114, c] = if 117 = c then 0 else 2 := by
  by_cases hc : 117 = c
  · subst hc; decide
  · rw [if_neg hc]
    simp [refL, hit, lT, lF, lN, hc, Ne.symm hc]

theorem refT3 (c : UInt8) : refL [116, 114, 117, c] = if 101 = c then 1 else 2 := by
  by_cases hc : 101 = c
  · subst hc; decide
  · rw [if_neg hc]
    simp [refL, hit, lT, lF, lN, hc, Ne.symm hc]

theorem refT4 (c : UInt8) : refL [116, 114, 117, 101, c] = 2 := by
  simp [refL, hit, lT, lF, lN]

theorem refF1 (c : UInt8) : refL [102, c] = if 97 = c then 0 else 2 := by
  by_cases hc : 97 = c
  · subst hc; decide
  · rw [if_neg hc]
    simp [refL, hit, lT, lF, lN, hc, Ne.symm hc]

theorem refF2 (c : UInt8) : refL [102, 97, c] = if 108 = c then 0 else 2 := by
  by_cases hc : 108 = c
  · subst hc; decide
  · rw [if_neg hc]
    simp [refL, hit, lT, lF, lN, hc, Ne.symm hc]

theorem refF3 (c : UInt8) : refL [102, 97, 108, c] = if 115 = c then 0 else 2 := by
  by_cases hc : 115 = c
  · subst hc; decide
  · rw [if_neg hc]
    simp [refL, hit, lT, lF, lN, hc, Ne.symm hc]

theorem refF4 (c : UInt8) : refL [102, 97, 108, 115, c] = if 101 = c then 1 else 2 := by
  by_cases hc : 101 = c
  · subst hc; decide
  · rw [if_neg hc]
    simp [refL, hit, lT, lF, lN, hc, Ne.symm hc]

theorem refF5 (c : UInt8) : refL [102, 97, 108, 115, 101, c] = 2 := by
  simp [refL, hit, lT, lF, lN]

theorem refN1 (c : UInt8) : refL [110, c] = if 117 = c then 0 else 2 := by
  by_cases hc : 117 = c
  · subst hc; decide
  · rw [if_neg hc]
    simp [refL, hit, lT, lF, lN, hc, Ne.symm hc]

theorem refN2 (c : UInt8) : refL [110, 117, c] = if 108 = c then 0 else 2 := by
  by_cases hc : 108 = c
  · subst hc; decide
  · rw [if_neg hc]
    simp [refL, hit, lT, lF, lN, hc, Ne.symm hc]

theorem refN3 (c : UInt8) : refL [110, 117, 108, c] = if 108 = c then 1 else 2 := by
  by_cases hc : 108 = c
  · subst hc; decide
  · rw [if_neg hc]
    simp [refL, hit, lT, lF, lN, hc, Ne.symm hc]

theorem refN4 (c : UInt8) : refL [110, 117, 108, 108, c] = 2 := by
  simp [refL, hit, lT, lF, lN]

/-- Within a word, and behind it. -/
theorem ref_in (t : ByteArray) (ht : t = wT ∨ t = wF ∨ t = wN) (k : Nat) (h1 : 1 ≤ k) (h2 : k ≤ t.size) (c : UInt8) :
    refL (t.data.toList.take k ++ [c]) = if h : k < t.size then (if t[k] = c then (if k + 1 = t.size then 1 else 0) else 2) else 2 := by
  rcases ht with rfl | rfl | rfl
  · rw [zT] at h2
    have hk : k = 1 ∨ k = 2 ∨ k = 3 ∨ k = 4 := by omega
    rcases hk with rfl | rfl | rfl | rfl
    · exact refT1 c
    · exact refT2 c
    · exact refT3 c
    · exact refT4 c
  · rw [zF] at h2
    have hk : k = 1 ∨ k = 2 ∨ k = 3 ∨ k = 4 ∨ k = 5 := by omega
    rcases hk with rfl | rfl | rfl | rfl | rfl
    · exact refF1 c
    · exact refF2 c
    · exact refF3 c
    · exact refF4 c
    · exact refF5 c
  · rw [zN] at h2
    have hk : k = 1 ∨ k = 2 ∨ k = 3 ∨ k = 4 := by omega
    rcases hk with rfl | rfl | rfl | rfl
    · exact refN1 c
    · exact refN2 c
    · exact refN3 c
    · exact refN4 c

theorem word_sizes {t : ByteArray} (h : t = wT ∨ t = wF ∨ t = wN) : 3 < t.size ∧ t.size ≤ 5 := by
  rcases h with rfl | rfl | rfl <;> decide

end Go.Proofs.Ytaklbbkjhbkieaa

namespace Go.Proofs.Ytaklbbkjhbkieaa
open Go.RowKit

structure Tok where
  kind : Int
  begun : Bool
  fr : Nat
  to : Nat
  text : List UInt8

/-- Where one is in a text: outside of tokens, or within a number, a word, a string that began at f; dead: at the end. -/
inductive LSt where
  | out
  | num (a : Int) (f : Nat) (p : List UInt8)
  | word (f : Nat) (p : List UInt8)
  | str (q : QSt) (f : Nat) (acc : List UInt8)
  | dead

/-- A byte outside of tokens: the tokens, the fault's kind (0: none), where one is then. -/
def outL (k : Nat) (c : UInt8) : List Tok × Int × LSt :=
  if kindI c.toNat = 1 then ([], 0, .out) else if kindI c.toNat = 0 then ([], 8, .dead) else if kindI c.toNat < 8 then ([⟨kindI c.toNat, false, k, k + 1, []⟩], 0, .out) else
  if kindI c.toNat = 8 then ([⟨8, true, k, k, []⟩], 0, .str .plain k []) else if kindI c.toNat = 9 then ([⟨9, true, k, k, []⟩], 0, .num (nxI 0 c.toNat) k [c]) else ([⟨10, true, k, k, []⟩], 0, .word k [c])
def strL (q : QSt) (f : Nat) (acc : List UInt8) (k : Nat) (c : UInt8) : Option (QSt × List UInt8) → List Tok × Int × LSt
  | none => ([], faultQ q c, .dead)
  | some (.done, e) => ([⟨8, false, f, k + 1, acc ++ e⟩], 0, .out)
  | some (q', e) => ([], 0, .str q' f (acc ++ e))
def stepL : LSt → Nat → UInt8 → List Tok × Int × LSt
  | .out, k, c => outL k c
  | .num a f p, k, c => if nxI a c.toNat ≠ 0 then ([], 0, .num (nxI a c.toNat) f (p ++ [c])) else
      if whI a && !stickI c.toNat then (⟨9, false, f, k, p⟩ :: (outL k c).1, (outL k c).2.1, (outL k c).2.2) else ([], 5, .dead)
  | .word f p, k, c => if refL (p ++ [c]) = 2 then ([], 6, .dead) else if refL (p ++ [c]) = 1 then ([⟨10, false, f, k + 1, p ++ [c]⟩], 0, .out) else ([], 0, .word f (p ++ [c]))
  | .str q f acc, k, c => strL q f acc k c (stepQ q c)
  | .dead, _, _ => ([], 14, .dead)
def closeL : LSt → Nat → List Tok × Int
  | .out, _ => ([], 1)
  | .num a f p, k => if whI a then ([⟨9, false, f, k, p⟩], 1) else ([], 10)
  | .dead, _ => ([], 14)
  | _, _ => ([], 10)
def lexGo : LSt → List UInt8 → Nat → List Tok → List Tok × Int × Nat
  | st, [], k, acc => (acc ++ (closeL st k).1, (closeL st k).2, k)
  | st, c :: t, k, acc => if (stepL st k c).2.1 ≠ 0 then (acc ++ (stepL st k c).1, (stepL st k c).2.1, k) else lexGo (stepL st k c).2.2 t (k + 1) (acc ++ (stepL st k c).1)
/-- All tokens of a text, the verdict's kind, and where. -/
def lexR (l : List UInt8) : List Tok × Int × Nat := lexGo .out l 0 []

def blankC (c : UInt8) : Prop := c = 32 ∨ c = 9 ∨ c = 10 ∨ c = 13
/-- What lies from i to ahead of j is blank. -/
def AllBlank (b : List UInt8) (i j : Nat) : Prop := ∀ m, i ≤ m → m < j → ∃ c, b[m]? = some c ∧ blankC c

/-- May this token come, behind at, where op has begun? -/
def okTok (b : List UInt8) (s : Nat × Option Nat) (t : Tok) : Prop :=
  if t.begun then s.2 = none ∧ s.1 ≤ t.fr ∧ t.to = t.fr ∧ t.fr < b.length
  else (s.2 = none ∨ s.2 = some t.fr) ∧ s.1 ≤ t.fr ∧ t.fr < t.to ∧ t.to ≤ b.length ∧ AllBlank b s.1 t.fr
def nextTok (s : Nat × Option Nat) (t : Tok) : Nat × Option Nat := if t.begun then (s.1, some t.fr) else (t.to, none)
def Spans (b : List UInt8) : List Tok → Nat × Option Nat → Nat × Option Nat → Prop
  | [], s, s' => s = s'
  | t :: ts, s, s' => okTok b s t ∧ Spans b ts (nextTok s t) s'

theorem spans_append (b : List UInt8) (l m : List Tok) : ∀ s s' s'', Spans b l s s' → Spans b m s' s'' → Spans b (l ++ m) s s'' := by
  induction l with
  | nil => intro s s' s'' h g; cases h; exact g
  | cons t l ih => intro s s' s'' h g; exact ⟨h.1, ih _ _ _ h.2 g⟩

/-- What holds behind k bytes. -/
def InvT (b : List UInt8) (st : LSt) (k : Nat) (s : Nat × Option Nat) : Prop := match st with
  | .out => s.2 = none ∧ s.1 ≤ k ∧ AllBlank b s.1 k
  | .num _ f _ => s.2 = some f ∧ s.1 ≤ f ∧ f < k ∧ AllBlank b s.1 f
  | .word f _ => s.2 = some f ∧ s.1 ≤ f ∧ f < k ∧ AllBlank b s.1 f
  | .str _ f _ => s.2 = some f ∧ s.1 ≤ f ∧ f < k ∧ AllBlank b s.1 f
  | .dead => False

theorem ite_both {p : Prop} [Decidable p] {a b : Int} {P : Int → Prop} (ha : P a) (hb : P b) : P (if p then a else b) := by split <;> assumption
theorem kind_blank {c : UInt8} (h : kindI c.toNat = 1) : blankC c := by
  have e : ∀ n : Nat, n < 256 → (c.toNat : Int) = n → c = UInt8.ofNat n := fun n hn e => by
    have : c.toNat = n := by omega
    rw [← this]; simp
  unfold blankC
  by_cases h1 : (c.toNat : Int) = 32
  · exact .inl (e 32 (by decide) h1)
  by_cases h2 : (c.toNat : Int) = 9
  · exact .inr (.inl (e 9 (by decide) h2))
  by_cases h3 : (c.toNat : Int) = 10
  · exact .inr (.inr (.inl (e 10 (by decide) h3)))
  by_cases h4 : (c.toNat : Int) = 13
  · exact .inr (.inr (.inr (e 13 (by decide) h4)))
  unfold kindI at h
  rw [if_neg h1, if_neg h2, if_neg h3, if_neg h4] at h
  refine absurd h ?_
  iterate 12 (refine ite_both (P := fun x : Int => ¬ x = 1) (by decide) ?_)
  decide

/-- What a byte does, in the sense of spans. -/
def StepOk (b : List UInt8) (k : Nat) (s : Nat × Option Nat) (r : List Tok × Int × LSt) : Prop :=
  ∃ s', Spans b r.1 s s' ∧ r.2.1 ≠ 1 ∧ (r.2.1 = 0 → InvT b r.2.2 (k + 1) s') ∧ (r.2.1 ≠ 0 → s'.1 ≤ k)

theorem blank_more {b : List UInt8} {i k : Nat} (h : AllBlank b i k) {c : UInt8} (hc : b[k]? = some c) (hb : blankC c) : AllBlank b i (k + 1) := fun m h1 h2 => by
  by_cases hm : m = k
  · subst hm; exact ⟨c, hc, hb⟩
  · exact h m h1 (by omega)

theorem out_ok (b : List UInt8) (k : Nat) (c : UInt8) (hc : b[k]? = some c) (s : Nat × Option Nat) (h : InvT b .out k s) : StepOk b k s (outL k c) := by
  obtain ⟨h1, h2, h3⟩ := h
  have hk : k < b.length := (List.getElem?_eq_some_iff.1 hc).1
  unfold outL
  split
  · rename_i hb
    exact ⟨s, rfl, (by show (0 : Int) ≠ 1; decide), fun _ => ⟨h1, by omega, blank_more h3 hc (kind_blank hb)⟩, fun e => absurd rfl e⟩
  split
  · exact ⟨s, rfl, (by show (8 : Int) ≠ 1; decide), (fun e => by cases e), fun _ => h2⟩
  split
  · exact ⟨(k + 1, none), ⟨⟨.inl h1, h2, Nat.lt_succ_self _, hk, h3⟩, rfl⟩, (by show (0 : Int) ≠ 1; decide), fun _ => ⟨rfl, Nat.le_refl _, fun m g1 g2 => absurd g2 (by simp at g1; omega)⟩, fun e => absurd rfl e⟩
  split
  · exact ⟨(s.1, some k), ⟨⟨h1, h2, rfl, hk⟩, rfl⟩, (by show (0 : Int) ≠ 1; decide), fun _ => ⟨rfl, h2, Nat.lt_succ_self _, h3⟩, fun e => absurd rfl e⟩
  split
  · exact ⟨(s.1, some k), ⟨⟨h1, h2, rfl, hk⟩, rfl⟩, (by show (0 : Int) ≠ 1; decide), fun _ => ⟨rfl, h2, Nat.lt_succ_self _, h3⟩, fun e => absurd rfl e⟩
  · exact ⟨(s.1, some k), ⟨⟨h1, h2, rfl, hk⟩, rfl⟩, (by show (0 : Int) ≠ 1; decide), fun _ => ⟨rfl, h2, Nat.lt_succ_self _, h3⟩, fun e => absurd rfl e⟩

theorem blank_none (b : List UInt8) (k : Nat) : AllBlank b k k := fun m h1 h2 => absurd h2 (by omega)

theorem stepL_ok (b : List UInt8) (st : LSt) (k : Nat) (c : UInt8) (hc : b[k]? = some c) (s : Nat × Option Nat) (h : InvT b st k s) : StepOk b k s (stepL st k c) := by
  have hk : k < b.length := (List.getElem?_eq_some_iff.1 hc).1
  cases st with
  | out => exact out_ok b k c hc s h
  | dead => exact h.elim
  | num a f p =>
    obtain ⟨h1, h2, h3, h4⟩ := h
    show StepOk b k s (if nxI a c.toNat ≠ 0 then ([], 0, LSt.num (nxI a c.toNat) f (p ++ [c])) else
      if whI a && !stickI c.toNat then (⟨9, false, f, k, p⟩ :: (outL k c).1, (outL k c).2.1, (outL k c).2.2) else ([], 5, .dead))
    split
    · exact ⟨s, rfl, (by show (0 : Int) ≠ 1; decide), fun _ => ⟨h1, h2, by omega, h4⟩, fun e => absurd rfl e⟩
    split
    · obtain ⟨s', g1, g2, g3, g4⟩ := out_ok b k c hc (k, none) ⟨rfl, Nat.le_refl _, blank_none b k⟩
      exact ⟨s', ⟨⟨.inr h1, h2, h3, by show k ≤ b.length; omega, h4⟩, g1⟩, g2, g3, g4⟩
    · exact ⟨s, rfl, by decide, fun e => (by cases e), fun _ => by omega⟩
  | word f p =>
    obtain ⟨h1, h2, h3, h4⟩ := h
    show StepOk b k s (if refL (p ++ [c]) = 2 then ([], 6, LSt.dead) else if refL (p ++ [c]) = 1 then ([⟨10, false, f, k + 1, p ++ [c]⟩], 0, .out) else ([], 0, .word f (p ++ [c])))
    split
    · exact ⟨s, rfl, by decide, fun e => (by cases e), fun _ => by omega⟩
    split
    · exact ⟨(k + 1, none), ⟨⟨.inr h1, h2, by show f < k + 1; omega, hk, h4⟩, rfl⟩, (by show (0 : Int) ≠ 1; decide), fun _ => ⟨rfl, Nat.le_refl _, blank_none b _⟩, fun e => absurd rfl e⟩
    · exact ⟨s, rfl, (by show (0 : Int) ≠ 1; decide), fun _ => ⟨h1, h2, by omega, h4⟩, fun e => absurd rfl e⟩
  | str q f acc =>
    obtain ⟨h1, h2, h3, h4⟩ := h
    show StepOk b k s (strL q f acc k c (stepQ q c))
    cases hq : stepQ q c with
    | none =>
      have := faultQ_ne q c
      exact ⟨s, rfl, this.1, fun e => absurd e this.2, fun _ => by omega⟩
    | some x =>
      obtain ⟨q', e⟩ := x
      by_cases hd : q' = .done
      · subst hd
        exact ⟨(k + 1, none), ⟨⟨.inr h1, h2, by show f < k + 1; omega, hk, h4⟩, rfl⟩, by show (0 : Int) ≠ 1; decide, fun _ => ⟨rfl, Nat.le_refl _, blank_none b _⟩, fun e => absurd rfl e⟩
      · have hs : strL q f acc k c (some (q', e)) = ([], 0, .str q' f (acc ++ e)) := by
          cases q' <;> first | rfl | exact absurd rfl hd
        rw [hs]
        exact ⟨s, rfl, by show (0 : Int) ≠ 1; decide, fun _ => ⟨h1, h2, by omega, h4⟩, fun e => absurd rfl e⟩

theorem close_ok (b : List UInt8) (st : LSt) (s : Nat × Option Nat) (h : InvT b st b.length s) :
    ∃ s', Spans b (closeL st b.length).1 s s' ∧ s'.1 ≤ b.length ∧ ((closeL st b.length).2 = 1 → s'.2 = none) := by
  cases st with
  | dead => exact h.elim
  | out => exact ⟨s, rfl, h.2.1, fun _ => h.1⟩
  | num a f p =>
    obtain ⟨h1, h2, h3, h4⟩ := h
    show ∃ s', Spans b (if whI a then ([⟨9, false, f, b.length, p⟩], (1 : Int)) else ([], 10)).1 s s' ∧ s'.1 ≤ b.length ∧ ((if whI a then ([(⟨9, false, f, b.length, p⟩ : Tok)], (1 : Int)) else ([], 10)).2 = 1 → s'.2 = none)
    split
    · exact ⟨(b.length, none), ⟨⟨.inr h1, h2, h3, Nat.le_refl _, h4⟩, rfl⟩, Nat.le_refl _, fun _ => rfl⟩
    · exact ⟨s, rfl, by omega, fun e => (by cases e)⟩
  | word f p => exact ⟨s, rfl, by have := h.2.1; have := h.2.2.1; omega, fun e => (by cases e)⟩
  | str q f acc => exact ⟨s, rfl, by have := h.2.1; have := h.2.2.1; omega, fun e => (by cases e)⟩

/-- Tokens lie one behind the other. -/
theorem lexGo_spans (b : List UInt8) (n : Nat) : ∀ (st : LSt) (k : Nat) (acc : List Tok) (s : Nat × Option Nat), b.length - k = n → k ≤ b.length → InvT b st k s → Spans b acc (0, none) s →
    ∃ s', Spans b (lexGo st (b.drop k) k acc).1 (0, none) s' ∧ s'.1 ≤ (lexGo st (b.drop k) k acc).2.2 ∧ (lexGo st (b.drop k) k acc).2.2 ≤ b.length ∧
      ((lexGo st (b.drop k) k acc).2.1 = 1 → s'.2 = none ∧ (lexGo st (b.drop k) k acc).2.2 = b.length) := by
  induction n with
  | zero =>
    intro st k acc s hn hk hi ha
    obtain rfl : k = b.length := by omega
    rw [List.drop_of_length_le (Nat.le_refl _)]
    obtain ⟨s', g1, g2, g3⟩ := close_ok b st s hi
    exact ⟨s', spans_append b _ _ _ _ _ ha g1, g2, Nat.le_refl _, fun e => ⟨g3 e, rfl⟩⟩
  | succ n ih =>
    intro st k acc s hn hk hi ha
    have hlt : k < b.length := by omega
    rw [List.drop_eq_getElem_cons hlt]
    obtain ⟨s', g1, g2, g3, g4⟩ := stepL_ok b st k b[k] (List.getElem?_eq_getElem hlt) s hi
    unfold lexGo
    by_cases hf : (stepL st k b[k]).2.1 ≠ 0
    · rw [if_pos hf]
      exact ⟨s', spans_append b _ _ _ _ _ ha g1, g4 hf, hk, fun e => absurd e g2⟩
    · rw [if_neg hf]
      exact ih _ _ _ _ (by omega) hlt (g3 (Decidable.not_not.1 hf)) (spans_append b _ _ _ _ _ ha g1)
theorem lexR_spans (b : List UInt8) : ∃ s', Spans b (lexR b).1 (0, none) s' ∧ s'.1 ≤ (lexR b).2.2 ∧ (lexR b).2.2 ≤ b.length ∧ ((lexR b).2.1 = 1 → s'.2 = none ∧ (lexR b).2.2 = b.length) :=
  lexGo_spans b b.length .out 0 [] (0, none) rfl (Nat.zero_le _) ⟨rfl, Nat.le_refl _, blank_none b 0⟩ rfl

end Go.Proofs.Ytaklbbkjhbkieaa

namespace Go.Proofs.Ytaklbbkjhbkieaa

structure Stp where
  named : Bool
  name : List UInt8
  index : Nat
structure Evt where
  kind : Int
  value : Int
  fr : Nat
  to : Nat
  step : Stp
  text : List UInt8
inductive May where
  | value | item | member | name | colon | next | nothing | broken
/-- What is open: an object or an array, where it begins, what it is itself, how many values, or which name, it has. -/
structure Opn where
  obj : Bool
  fr : Nat
  step : Stp
  many : Nat
  name : List UInt8
/-- Where one is in a text: what is open (the innermost first), what may come, the kind of the token that has begun (0: none). -/
structure Nst where
  most : Nat
  op : List Opn
  may : May
  begun : Int
  came : Bool

def Opn.kd (o : Opn) : Int := if o.obj then 5 else 4
def stepO : List Opn → Stp
  | [] => ⟨false, [], 0⟩
  | o :: _ => if o.obj then ⟨true, o.name, 0⟩ else ⟨false, [], o.many⟩
def newN (d : Int) : Nst := ⟨if d < 1 then 1 else d.toNat, [], .value, 0, false⟩
def moreO : List Opn → List Opn
  | [] => []
  | o :: r => { o with many := o.many + 1 } :: r
def nameO (s : List UInt8) : List Opn → List Opn
  | [] => []
  | o :: r => { o with name := s } :: r
/-- Behind a value. -/
def endedN (n : Nst) : Nst := { n with op := moreO n.op, may := if n.op.isEmpty then .nothing else .next }
def badN (n : Nst) (k : Int) : Nst × List Evt × Int := ({ n with may := .broken }, [], k)
/-- The kind of an ended token's value. -/
def scalarK (t : Tok) : Int := if t.kind = 8 then 3 else if t.kind = 9 then 2 else if t.text = lN then 0 else 1
/-- The kind as which a token's value begins. -/
def beginK (k : Int) : Int := if k = 8 then 3 else if k = 9 then 2 else 0
/-- May a value come? -/
def May.val : May → Bool
  | .value => true
  | .item => true
  | _ => false
def May.nam : May → Bool
  | .member => true
  | .name => true
  | _ => false
def May.isNext : May → Bool
  | .next => true
  | _ => false
def isArr : List Opn → Bool
  | o :: _ => !o.obj
  | [] => false
def isObj : List Opn → Bool
  | o :: _ => o.obj
  | [] => false

/-- A token where none has begun. -/
def takeO (n : Nst) (t : Tok) : Nst × List Evt × Int := match n.may with
  | .broken => (n, [], 14)
  | .nothing => badN n 9
  | m =>
    if t.begun then
      if t.kind = 8 ∧ m.nam = true then ({ n with begun := 8, came := true }, [], 0)
      else if m.val = true then ({ n with begun := t.kind, came := true }, [⟨1, beginK t.kind, t.fr, 0, stepO n.op, []⟩], 0)
      else badN { n with came := true } 8
    else if (t.kind = 2 ∨ t.kind = 4) ∧ m.val = true then
      if n.most ≤ n.op.length then badN { n with came := true } 12
      else ({ n with op := ⟨decide (t.kind = 4), t.fr, stepO n.op, 0, []⟩ :: n.op, may := if t.kind = 4 then .member else .item, came := true }, [⟨1, t.kind / 4 + 4, t.fr, 0, stepO n.op, []⟩], 0)
    else match m, n.op with
      | .item, o :: r => if t.kind = 3 then ({ endedN { n with op := r } with came := true }, [⟨2, o.kd, o.fr, t.to, o.step, []⟩], 0) else badN { n with came := true } 8
      | .member, o :: r => if t.kind = 5 then ({ endedN { n with op := r } with came := true }, [⟨2, o.kd, o.fr, t.to, o.step, []⟩], 0) else badN { n with came := true } 8
      | .next, o :: r => if t.kind = (if o.obj then 5 else 3) then ({ endedN { n with op := r } with came := true }, [⟨2, o.kd, o.fr, t.to, o.step, []⟩], 0)
          else if t.kind = 6 then ({ n with may := if o.obj then .name else .value, came := true }, [], 0) else badN { n with came := true } 8
      | .colon, _ => if t.kind = 7 then ({ n with may := .value, came := true }, [], 0) else badN { n with came := true } 8
      | _, _ => badN { n with came := true } 8
/-- A token. -/
def takeN (n : Nst) (t : Tok) : Nst × List Evt × Int :=
  if n.begun = 0 then takeO n t
  else if n.may.nam = true then ({ n with begun := 0, op := nameO t.text n.op, may := .colon }, [], 0)
  else ({ endedN n with begun := 0 }, [⟨2, scalarK t, t.fr, t.to, stepO n.op, t.text⟩], 0)

/-- Tokens as they come of a text: what begins ends next. -/
def okW (p : Option (Int × Nat)) (t : Tok) : Prop := match p with
  | none => if t.begun then 8 ≤ t.kind ∧ t.kind ≤ 10 else 2 ≤ t.kind ∧ t.kind ≤ 7
  | some (k, f) => t.begun = false ∧ t.kind = k ∧ t.fr = f ∧ (k = 10 → t.text = lT ∨ t.text = lF ∨ t.text = lN)
def nextW (t : Tok) : Option (Int × Nat) := if t.begun then some (t.kind, t.fr) else none
def WfTo : List Tok → Option (Int × Nat) → Option (Int × Nat) → Prop
  | [], p, q => p = q
  | t :: ts, p, q => okW p t ∧ WfTo ts (nextW t) q
theorem wf_append (l m : List Tok) : ∀ p q r, WfTo l p q → WfTo m q r → WfTo (l ++ m) p r := by
  induction l with
  | nil => intro p q r h g; cases h; exact g
  | cons t l ih => intro p q r h g; exact ⟨h.1, ih _ _ _ h.2 g⟩

/-- What is pending behind some bytes. -/
def pendL : LSt → Option (Int × Nat)
  | .num _ f _ => some (9, f)
  | .word f _ => some (10, f)
  | .str _ f _ => some (8, f)
  | _ => none
def WStep (p : Option (Int × Nat)) (r : List Tok × Int × LSt) : Prop := ∃ q, WfTo r.1 p q ∧ (r.2.1 = 0 → q = pendL r.2.2)

theorem out_wf (k : Nat) (c : UInt8) : WStep none (outL k c) := by
  have hk : ∀ n : Nat, n < 256 → kindI n ≤ 10 ∧ 0 ≤ kindI n := by decide +kernel
  have hc := hk c.toNat (UInt8.toNat_lt c)
  unfold outL
  split
  · exact ⟨none, rfl, fun _ => rfl⟩
  split
  · exact ⟨none, rfl, fun e => by cases e⟩
  split
  · rename_i h1 h2 h3
    exact ⟨none, ⟨⟨by show (2 : Int) ≤ kindI c.toNat; omega, by show kindI c.toNat ≤ 7; omega⟩, rfl⟩, fun _ => rfl⟩
  split
  · exact ⟨_, ⟨⟨by show (8 : Int) ≤ 8; omega, by show (8 : Int) ≤ 10; omega⟩, rfl⟩, fun _ => rfl⟩
  split
  · exact ⟨_, ⟨⟨by show (8 : Int) ≤ 9; omega, by show (9 : Int) ≤ 10; omega⟩, rfl⟩, fun _ => rfl⟩
  · exact ⟨_, ⟨⟨by show (8 : Int) ≤ 10; omega, by show (10 : Int) ≤ 10; omega⟩, rfl⟩, fun _ => rfl⟩

theorem stepL_wf (st : LSt) (k : Nat) (c : UInt8) (hd : st ≠ .dead) : WStep (pendL st) (stepL st k c) := by
  cases st with
  | dead => exact absurd rfl hd
  | out => exact out_wf k c
  | num a f p =>
    show WStep (some (9, f)) (if nxI a c.toNat ≠ 0 then ([], 0, LSt.num (nxI a c.toNat) f (p ++ [c])) else
      if whI a && !stickI c.toNat then (⟨9, false, f, k, p⟩ :: (outL k c).1, (outL k c).2.1, (outL k c).2.2) else ([], 5, .dead))
    split
    · exact ⟨_, rfl, fun _ => rfl⟩
    split
    · obtain ⟨q, h1, h2⟩ := out_wf k c
      exact ⟨q, ⟨⟨rfl, rfl, rfl, fun e => by cases e⟩, h1⟩, h2⟩
    · exact ⟨_, rfl, fun e => by cases e⟩
  | word f p =>
    show WStep (some (10, f)) (if refL (p ++ [c]) = 2 then ([], 6, LSt.dead) else if refL (p ++ [c]) = 1 then ([⟨10, false, f, k + 1, p ++ [c]⟩], 0, .out) else ([], 0, .word f (p ++ [c])))
    split
    · exact ⟨_, rfl, fun e => by cases e⟩
    split
    · rename_i h
      exact ⟨none, ⟨⟨rfl, rfl, rfl, fun _ => ref_one h⟩, rfl⟩, fun _ => rfl⟩
    · exact ⟨_, rfl, fun _ => rfl⟩
  | str q f acc =>
    show WStep (some (8, f)) (strL q f acc k c (stepQ q c))
    cases hs : stepQ q c with
    | none => exact ⟨_, rfl, fun e => absurd e (faultQ_ne q c).2⟩
    | some x =>
      obtain ⟨q', e⟩ := x
      cases q' <;> first
        | exact ⟨_, rfl, fun _ => rfl⟩
        | exact ⟨none, ⟨⟨rfl, rfl, rfl, fun e => by cases e⟩, rfl⟩, fun _ => rfl⟩
theorem closeL_wf (st : LSt) (k : Nat) (hd : st ≠ .dead) : ∃ q, WfTo (closeL st k).1 (pendL st) q := by
  cases st with
  | dead => exact absurd rfl hd
  | out => exact ⟨_, rfl⟩
  | num a f p =>
    show ∃ q, WfTo (if whI a then (([⟨9, false, f, k, p⟩], 1) : List Tok × Int) else ([], 10)).1 (some (9, f)) q
    split
    · exact ⟨none, ⟨rfl, rfl, rfl, fun e => by cases e⟩, rfl⟩
    · exact ⟨_, rfl⟩
  | word f p => exact ⟨_, rfl⟩
  | str q f acc => exact ⟨_, rfl⟩
theorem stepL_dead (st : LSt) (k : Nat) (c : UInt8) (hd : st ≠ .dead) (h0 : (stepL st k c).2.1 = 0) : (stepL st k c).2.2 ≠ .dead := by
  have ho : (outL k c).2.1 = 0 → (outL k c).2.2 ≠ .dead := by
    unfold outL
    (repeat' split) <;> simp
  revert h0
  cases st with
  | dead => exact absurd rfl hd
  | out => exact ho
  | num a f p =>
    show (if nxI a c.toNat ≠ 0 then (([], 0, LSt.num (nxI a c.toNat) f (p ++ [c])) : List Tok × Int × LSt) else if whI a && !stickI c.toNat then (⟨9, false, f, k, p⟩ :: (outL k c).1, (outL k c).2.1, (outL k c).2.2) else ([], 5, .dead)).2.1 = 0 → (if nxI a c.toNat ≠ 0 then (([], 0, LSt.num (nxI a c.toNat) f (p ++ [c])) : List Tok × Int × LSt) else if whI a && !stickI c.toNat then (⟨9, false, f, k, p⟩ :: (outL k c).1, (outL k c).2.1, (outL k c).2.2) else ([], 5, .dead)).2.2 ≠ .dead
    split
    · intro _ e; cases e
    split
    · exact ho
    · intro e; cases e
  | word f p =>
    show (if refL (p ++ [c]) = 2 then (([], 6, .dead) : List Tok × Int × LSt) else if refL (p ++ [c]) = 1 then ([⟨10, false, f, k + 1, p ++ [c]⟩], 0, .out) else ([], 0, .word f (p ++ [c]))).2.1 = 0 → (if refL (p ++ [c]) = 2 then (([], 6, .dead) : List Tok × Int × LSt) else if refL (p ++ [c]) = 1 then ([⟨10, false, f, k + 1, p ++ [c]⟩], 0, .out) else ([], 0, .word f (p ++ [c]))).2.2 ≠ .dead
    (repeat' split) <;> intro e <;> first | (cases e; done) | (intro e2; cases e2)
  | str q f acc =>
    show (strL q f acc k c (stepQ q c)).2.1 = 0 → (strL q f acc k c (stepQ q c)).2.2 ≠ .dead
    cases hs : stepQ q c with
    | none => intro e; exact absurd e (faultQ_ne q c).2
    | some p =>
      obtain ⟨q', x⟩ := p
      cases q' <;> intro _ e <;> cases e
theorem lexGo_wf (t : List UInt8) : ∀ (st : LSt) (k : Nat) (acc : List Tok), st ≠ .dead → WfTo acc none (pendL st) → ∃ q, WfTo (lexGo st t k acc).1 none q := by
  induction t with
  | nil =>
    intro st k acc hd ha
    obtain ⟨q, h⟩ := closeL_wf st k hd
    exact ⟨q, wf_append _ _ _ _ _ ha h⟩
  | cons c t ih =>
    intro st k acc hd ha
    obtain ⟨q, h1, h2⟩ := stepL_wf st k c hd
    unfold lexGo
    by_cases hf : (stepL st k c).2.1 ≠ 0
    · rw [if_pos hf]
      exact ⟨q, wf_append _ _ _ _ _ ha h1⟩
    · rw [if_neg hf]
      have h0 := Decidable.not_not.1 hf
      refine ih _ _ _ (stepL_dead st k c hd h0) ?_
      rw [← h2 h0]
      exact wf_append _ _ _ _ _ ha h1
theorem lexR_wf (l : List UInt8) : ∃ q, WfTo (lexR l).1 none q := lexGo_wf l .out 0 [] (by simp) rfl

end Go.Proofs.Ytaklbbkjhbkieaa

namespace Go.Proofs.Ytaklbbkjhbkieaa

def opE (o : Opn) : Evt := ⟨1, o.kd, o.fr, 0, o.step, []⟩
/-- The value of a token that has begun. -/
def evP (n : Nst) : Option (Int × Nat) → List Evt
  | some (k, f) => if n.may.val then [⟨1, beginK k, f, 0, stepO n.op, []⟩] else []
  | none => []
/-- What is open, the outermost first. -/
def evs (n : Nst) (p : Option (Int × Nat)) : List Evt := n.op.reverse.map opE ++ evP n p
/-- How many values each has, the innermost first. -/
def ctF : Nat → List Opn → List Nat
  | c, [] => [c]
  | c, o :: r => (o.many + c) :: ctF 1 r
def May.isNothing : May → Bool
  | .nothing => true
  | _ => false
def cB (n : Nst) (p : Option (Int × Nat)) : Nat := if (evP n p).isEmpty && !n.may.isNothing then 0 else 1
def cts (n : Nst) (p : Option (Int × Nat)) : List Nat := (ctF (cB n p) n.op).reverse ++ (evP n p).map fun _ => 0

/-- What holds between two tokens. -/
structure InvN (n : Nst) (s : Nat × Option Nat) (p : Option (Int × Nat)) : Prop where
  most : 1 ≤ n.most
  deep : n.op.length ≤ n.most
  none : p = none → n.begun = 0 ∧ s.2 = none
  some : ∀ k f, p = some (k, f) → n.begun = k ∧ 8 ≤ k ∧ k ≤ 10 ∧ s.2 = some f ∧ (n.may.val = true ∨ n.may.nam = true)
  noth : n.may.isNothing = true → n.op = []
  low : ∀ o ∈ n.op, o.fr < s.1

/-- What a token does. -/
def DoesN (n n' : Nst) (p p' : Option (Int × Nat)) (es : List Evt) : Prop :=
  (es = [] ∧ evs n' p' = evs n p ∧ cts n' p' = cts n p) ∨
  (∃ e, es = [e] ∧ e.kind = 1 ∧ evs n' p' = evs n p ++ [e] ∧ (∃ cs c, cts n p = cs ++ [c] ∧ cts n' p' = cs ++ [c + 1] ++ [0] ∧ ∀ o, (evs n p).getLast? = some o → (o.value = 4 → e.step.named = false ∧ e.step.index = c) ∧ (o.value = 5 → e.step.named = true))) ∨
  (∃ e o c, es = [e] ∧ e.kind = 2 ∧ evs n p = evs n' p' ++ [o] ∧ cts n p = cts n' p' ++ [c] ∧ o.fr = e.fr ∧ o.step = e.step ∧ (e.value = o.value ∨ e.value = 1) ∧ e.fr < e.to)

theorem ctF_ne (c : Nat) (l : List Opn) : ctF c l ≠ [] := by cases l <;> simp [ctF]
theorem ctF_more (l : List Opn) (h : l ≠ []) : ctF 0 (moreO l) = ctF 1 l := by
  cases l with
  | nil => exact absurd rfl h
  | cons o r => simp [moreO, ctF]
theorem opE_more (l : List Opn) : (moreO l).map opE = l.map opE := by
  cases l with
  | nil => rfl
  | cons o r => rfl
theorem opE_name (s : List UInt8) (l : List Opn) : (nameO s l).map opE = l.map opE := by
  cases l with
  | nil => rfl
  | cons o r => rfl
theorem ctF_name (c : Nat) (s : List UInt8) (l : List Opn) : ctF c (nameO s l) = ctF c l := by
  cases l with
  | nil => rfl
  | cons o r => rfl
theorem map_rev (l : List Opn) : l.reverse.map opE = (l.map opE).reverse := by simp
/-- The last count of what is open, where nothing is pending, and what a value's step says of it. -/
theorem ct_last (l : List Opn) : ∃ cs c, (ctF 0 l).reverse = cs ++ [c] ∧ (ctF 1 l).reverse = cs ++ [c + 1] ∧ ∀ o, (l.reverse.map opE).getLast? = some o → (o.value = 4 → (stepO l).named = false ∧ (stepO l).index = c) ∧ (o.value = 5 → (stepO l).named = true) := by
  cases l with
  | nil => exact ⟨[], 0, rfl, rfl, fun o h => by simp at h⟩
  | cons o r =>
    refine ⟨(ctF 1 r).reverse, o.many, by simp [ctF], by simp [ctF], fun x h => ?_⟩
    have hx : opE o = x := by simpa using h
    subst hx
    cases ho : o.obj <;> simp [opE, Opn.kd, stepO, ho]
/-- Behind a value that ends. -/
theorem ct_ended (l : List Opn) : ctF (if l.isEmpty then 1 else 0) (moreO l) = ctF 1 l := by
  cases l with
  | nil => rfl
  | cons o r => simp [moreO, ctF]

section
variable {n : Nst} {s : Nat × Option Nat} {p : Option (Int × Nat)}
theorem InvN.start (d : Int) : InvN (newN d) (0, Option.none) Option.none := by
  refine ⟨?_, Nat.zero_le _, fun _ => ⟨rfl, rfl⟩, (fun k f e => by cases e), fun _ => rfl, (fun o h => by simp [newN] at h)⟩
  show 1 ≤ if d < 1 then 1 else d.toNat
  split <;> omega
theorem evs_start (d : Int) : evs (newN d) Option.none = [] ∧ cts (newN d) Option.none = [0] := ⟨rfl, rfl⟩
theorem evP_none (n : Nst) : evP n Option.none = [] := rfl
theorem cB_none (h : n.may.isNothing = false) : cB n Option.none = 0 := by simp [cB, evP_none, h]

/-- A value that opens. -/
theorem does_open (n : Nst) (n' : Nst) (p' : Option (Int × Nat)) (e : Evt) (hk : e.kind = 1) (hs : e.step = stepO n.op) (hn : n.may.isNothing = false) (he : evs n' p' = evs n Option.none ++ [e]) (hc : cts n' p' = (ctF 1 n.op).reverse ++ [0]) : DoesN n n' Option.none p' [e] := by
  obtain ⟨cs, c, h1, h2, h3⟩ := ct_last n.op
  refine .inr (.inl ⟨e, rfl, hk, he, cs, c, ?_, by rw [hc, h2], fun o ho => ?_⟩)
  · unfold cts
    rw [cB_none hn, evP_none, h1]
    simp
  · rw [hs]
    refine h3 o ?_
    simpa [evs, evP_none] using ho
/-- A value that closes, of those that hold others. -/
theorem does_close (o : Opn) (r : List Opn) (n' : Nst) (to : Nat) (hop : n.op = o :: r) (hn : n.may.isNothing = false) (hto : o.fr < to) (h' : n'.op = moreO r) (hm : n'.may = if r.isEmpty then .nothing else .next) : DoesN n n' Option.none Option.none [⟨2, o.kd, o.fr, to, o.step, []⟩] := by
  refine .inr (.inr ⟨_, opE o, o.many, rfl, rfl, ?_, ?_, rfl, rfl, .inl rfl, hto⟩)
  · unfold evs
    rw [evP_none, evP_none, hop, h', map_rev, map_rev, opE_more]
    simp
  · unfold cts
    rw [cB_none hn, evP_none, evP_none, hop, h']
    have hc : cB n' Option.none = if r.isEmpty then 1 else 0 := by
      unfold cB
      rw [hm, evP_none]
      cases r <;> rfl
    rw [hc, ct_ended]
    simp [ctF]
/-- Where nothing comes of a token. -/
theorem does_none (n' : Nst) (hn : n.may.isNothing = false) (hn' : n'.may.isNothing = false) (p' : Option (Int × Nat)) (hp : evP n' p' = []) (h' : n'.op = n.op) : DoesN n n' Option.none p' [] := by
  refine .inl ⟨rfl, ?_, ?_⟩
  · unfold evs; rw [hp, evP_none, h']
  · unfold cts
    rw [cB_none hn, evP_none, hp, h']
    have : cB n' p' = 0 := by simp [cB, hp, hn']
    rw [this]
end

theorem not_val {m : May} (h : m.nam = true) : m.val = false := by cases m <;> first | rfl | cases h
theorem val_not {m : May} (h : m.val = true) : m.isNothing = false := by cases m <;> first | rfl | cases h
theorem nam_not {m : May} (h : m.nam = true) : m.isNothing = false := by cases m <;> first | rfl | cases h

/-- A token by which a text goes on, where none has begun. -/
theorem takeO_ok (b : List UInt8) (n : Nst) (s : Nat × Option Nat) (t : Tok) (hi : InvN n s none) (ht : okTok b s t) (hw : okW none t) (h0 : (takeO n t).2.2 = 0) :
    InvN (takeO n t).1 (nextTok s t) (nextW t) ∧ DoesN n (takeO n t).1 none (nextW t) (takeO n t).2.1 := by
  obtain ⟨hb, hs2⟩ := hi.none rfl
  obtain ⟨most, op, may, begun, came⟩ := n
  obtain ⟨kd, bg, fr, to, tx⟩ := t
  have hb : begun = 0 := hb
  subst hb
  cases bg with
  | true =>
    obtain ⟨g1, g2, g3, g4⟩ : s.2 = none ∧ s.1 ≤ fr ∧ to = fr ∧ fr < b.length := ht
    obtain ⟨w1, w2⟩ : 8 ≤ kd ∧ kd ≤ 10 := hw
    have key : ∀ m : May, m = may → m ≠ .broken → m ≠ .nothing → takeO ⟨most, op, may, 0, came⟩ ⟨kd, true, fr, to, tx⟩ =
        (if kd = 8 ∧ m.nam = true then (⟨most, op, may, 8, true⟩, [], 0) else if m.val = true then (⟨most, op, may, kd, true⟩, [⟨1, beginK kd, fr, 0, stepO op, []⟩], 0) else badN ⟨most, op, may, 0, true⟩ 8) := by
      rintro m rfl h1 h2
      cases m <;> first | exact absurd rfl h1 | exact absurd rfl h2 | rfl
    by_cases h1 : may = .broken
    · subst h1; exact absurd h0 (by show (14 : Int) ≠ 0; decide)
    by_cases h2 : may = .nothing
    · subst h2; exact absurd h0 (by show (9 : Int) ≠ 0; decide)
    have hk := key may rfl h1 h2
    rw [hk] at h0 ⊢
    have hn : may.isNothing = false := by cases may <;> first | rfl | exact absurd rfl h2
    by_cases h8 : kd = 8 ∧ may.nam = true
    · rw [if_pos h8] at h0 ⊢
      obtain ⟨rfl, hna⟩ := h8
      refine ⟨⟨hi.most, hi.deep, (fun e => by cases e), (fun k f e => ?_), hi.noth, hi.low⟩, ?_⟩
      · injection e with e
        injection e with e1 e2
        subst e1 e2
        exact ⟨rfl, by omega, by omega, rfl, .inr hna⟩
      · exact does_none _ hn hn _ (show evP _ (some (8, fr)) = [] by simp [evP, not_val hna]) rfl
    · rw [if_neg h8] at h0 ⊢
      by_cases hv : may.val = true
      · rw [if_pos hv] at h0 ⊢
        refine ⟨⟨hi.most, hi.deep, (fun e => by cases e), (fun k f e => ?_), hi.noth, hi.low⟩, ?_⟩
        · injection e with e
          injection e with e1 e2
          subst e1 e2
          exact ⟨rfl, w1, w2, rfl, .inl hv⟩
        · have hp : evP ⟨most, op, may, kd, true⟩ (some (kd, fr)) = [⟨1, beginK kd, fr, 0, stepO op, []⟩] := by simp [evP, hv]
          refine does_open ⟨most, op, may, 0, came⟩ _ (some (kd, fr)) _ rfl rfl hn ?_ ?_
          · unfold evs; rw [hp, evP_none]; simp
          · unfold cts; rw [hp]; simp [cB, hp]
      · rw [if_neg hv] at h0
        exact absurd h0 (by show (8 : Int) ≠ 0; decide)
  | false =>
    obtain ⟨g1, g2, g3, g4, g5⟩ : (s.2 = none ∨ s.2 = some fr) ∧ s.1 ≤ fr ∧ fr < to ∧ to ≤ b.length ∧ AllBlank b s.1 fr := ht
    obtain ⟨w1, w2⟩ : 2 ≤ kd ∧ kd ≤ 7 := hw
    have hlow : ∀ o ∈ op, o.fr < to := fun o ho => by have : o.fr < s.1 := hi.low o ho; omega
    have close : ∀ (o : Opn) (r : List Opn) (m : May), op = o :: r → m.isNothing = false → InvN { endedN (⟨most, r, m, 0, came⟩ : Nst) with came := true } (to, none) none ∧
        DoesN ⟨most, op, m, 0, came⟩ { endedN (⟨most, r, m, 0, came⟩ : Nst) with came := true } none none [⟨2, o.kd, o.fr, to, o.step, []⟩] := by
      rintro o r m rfl hm
      refine ⟨⟨hi.most, ?_, fun _ => ⟨rfl, rfl⟩, (fun k f e => by cases e), ?_, ?_⟩, does_close o r _ to rfl hm (hlow o (by simp)) rfl rfl⟩
      · have := hi.deep
        show (moreO r).length ≤ most
        cases r <;> simp [moreO] at this ⊢ <;> omega
      · cases r with
        | nil => intro _; rfl
        | cons q r => intro h; cases h
      · intro x hx
        cases r with
        | nil => cases hx
        | cons q r =>
          rcases List.mem_cons.1 hx with rfl | hx
          · exact hlow q (by simp)
          · exact hlow x (by simp [hx])
    have stay : ∀ (m m' : May), m.isNothing = false → m'.isNothing = false → InvN (⟨most, op, m', 0, true⟩ : Nst) (to, none) none ∧ DoesN ⟨most, op, m, 0, came⟩ ⟨most, op, m', 0, true⟩ none none [] := fun m m' hm hm' =>
      ⟨⟨hi.most, hi.deep, fun _ => ⟨rfl, rfl⟩, (fun k f e => by cases e), (fun h => by rw [hm'] at h; cases h), hlow⟩, does_none _ hm hm' none rfl rfl⟩
    have opens : ∀ m : May, m = may → m.val = true → kd = 2 ∨ kd = 4 → op.length < most → InvN (⟨most, ⟨decide (kd = 4), fr, stepO op, 0, []⟩ :: op, if kd = 4 then .member else .item, 0, true⟩ : Nst) (to, none) none ∧
        DoesN ⟨most, op, m, 0, came⟩ ⟨most, ⟨decide (kd = 4), fr, stepO op, 0, []⟩ :: op, if kd = 4 then .member else .item, 0, true⟩ none none [⟨1, kd / 4 + 4, fr, 0, stepO op, []⟩] := by
      rintro m rfl hm hk hlt
      have hmay : (if kd = 4 then May.member else May.item).isNothing = false := by split <;> rfl
      refine ⟨⟨hi.most, (show (_ :: op).length ≤ most from hlt), fun _ => ⟨rfl, rfl⟩, (fun k f e => by cases e), (fun h => by rw [hmay] at h; cases h), ?_⟩, ?_⟩
      · intro x hx
        rcases List.mem_cons.1 hx with rfl | hx
        · exact g3
        · exact hlow x hx
      · have hkd : kd / 4 + 4 = (⟨decide (kd = 4), fr, stepO op, 0, []⟩ : Opn).kd := by
          rcases hk with rfl | rfl <;> rfl
        refine does_open ⟨most, op, m, 0, came⟩ _ none _ rfl rfl (val_not hm) ?_ ?_
        · unfold evs
          rw [evP_none, evP_none, hkd]
          simp [opE]
        · unfold cts
          rw [cB_none hmay, evP_none]
          simp [ctF]
    show InvN (takeO ⟨most, op, may, 0, came⟩ ⟨kd, false, fr, to, tx⟩).1 (to, none) none ∧ DoesN ⟨most, op, may, 0, came⟩ (takeO ⟨most, op, may, 0, came⟩ ⟨kd, false, fr, to, tx⟩).1 none none (takeO ⟨most, op, may, 0, came⟩ ⟨kd, false, fr, to, tx⟩).2.1
    by_cases hop : (kd = 2 ∨ kd = 4) ∧ may.val = true
    · have e : takeO ⟨most, op, may, 0, came⟩ ⟨kd, false, fr, to, tx⟩ = if most ≤ op.length then badN ⟨most, op, may, 0, true⟩ 12 else (⟨most, ⟨decide (kd = 4), fr, stepO op, 0, []⟩ :: op, if kd = 4 then .member else .item, 0, true⟩, [⟨1, kd / 4 + 4, fr, 0, stepO op, []⟩], 0) := by
        have hv := hop.2
        cases may <;> first | (cases hv; done) | (unfold takeO; simp only []; rw [if_neg (by simp), if_pos hop])
      rw [e] at h0 ⊢
      by_cases hd : most ≤ op.length
      · rw [if_pos hd] at h0
        exact absurd h0 (by show (12 : Int) ≠ 0; decide)
      · rw [if_neg hd]
        exact opens may rfl hop.2 hop.1 (by omega)
    · cases may with
      | broken => exact absurd h0 (by show (14 : Int) ≠ 0; decide)
      | nothing => exact absurd h0 (by show (9 : Int) ≠ 0; decide)
      | value =>
        unfold takeO at h0
        simp only [] at h0
        rw [if_neg (by simp), if_neg hop] at h0
        exact absurd h0 (by simp [badN])
      | name =>
        unfold takeO at h0
        simp only [] at h0
        rw [if_neg (by simp), if_neg hop] at h0
        exact absurd h0 (by simp [badN])
      | item =>
        cases hl : op with
        | nil =>
          unfold takeO at h0
          simp only [hl] at h0
          rw [if_neg (by simp), if_neg hop] at h0
          exact absurd h0 (by simp [badN])
        | cons o r =>
          unfold takeO at h0 ⊢
          simp only [hl] at h0 ⊢
          rw [if_neg (by simp), if_neg hop] at h0 ⊢
          by_cases hk : kd = 3
          · rw [if_pos hk]
            subst hl
            exact close o r .item rfl rfl
          · rw [if_neg hk] at h0
            exact absurd h0 (by simp [badN])
      | member =>
        cases hl : op with
        | nil =>
          unfold takeO at h0
          simp only [hl] at h0
          rw [if_neg (by simp), if_neg hop] at h0
          exact absurd h0 (by simp [badN])
        | cons o r =>
          unfold takeO at h0 ⊢
          simp only [hl] at h0 ⊢
          rw [if_neg (by simp), if_neg hop] at h0 ⊢
          by_cases hk : kd = 5
          · rw [if_pos hk]
            subst hl
            exact close o r .member rfl rfl
          · rw [if_neg hk] at h0
            exact absurd h0 (by simp [badN])
      | next =>
        cases hl : op with
        | nil =>
          unfold takeO at h0
          simp only [hl] at h0
          rw [if_neg (by simp), if_neg hop] at h0
          exact absurd h0 (by simp [badN])
        | cons o r =>
          unfold takeO at h0 ⊢
          simp only [hl] at h0 ⊢
          rw [if_neg (by simp), if_neg hop] at h0 ⊢
          by_cases hk : kd = if o.obj = true then 5 else 3
          · rw [if_pos hk]
            subst hl
            exact close o r .next rfl rfl
          · rw [if_neg hk] at h0 ⊢
            by_cases h6 : kd = 6
            · rw [if_pos h6]
              subst hl
              cases ho : o.obj
              · exact stay .next .value rfl rfl
              · exact stay .next .name rfl rfl
            · rw [if_neg h6] at h0
              exact absurd h0 (by simp [badN])
      | colon =>
        unfold takeO at h0 ⊢
        simp only [] at h0 ⊢
        rw [if_neg (by simp), if_neg hop] at h0 ⊢
        by_cases hk : kd = 7
        · rw [if_pos hk]
          exact stay .colon .value rfl rfl
        · rw [if_neg hk] at h0
          exact absurd h0 (by simp [badN])

/-- A token by which a text goes on. -/
theorem takeN_ok (b : List UInt8) (n : Nst) (s : Nat × Option Nat) (p : Option (Int × Nat)) (t : Tok) (hi : InvN n s p) (ht : okTok b s t) (hw : okW p t) (h0 : (takeN n t).2.2 = 0) :
    InvN (takeN n t).1 (nextTok s t) (nextW t) ∧ DoesN n (takeN n t).1 p (nextW t) (takeN n t).2.1 := by
  cases p with
  | none =>
    have e : takeN n t = takeO n t := by unfold takeN; rw [if_pos (hi.none rfl).1]
    rw [e] at h0 ⊢
    exact takeO_ok b n s t hi ht hw h0
  | some kf =>
    obtain ⟨k, f⟩ := kf
    obtain ⟨g1, g2, g3, g4, g5⟩ := hi.some k f rfl
    obtain ⟨w1, w2, w3, w4⟩ := hw
    obtain ⟨kd, bg, fr, to, tx⟩ := t
    have w1 : bg = false := w1
    have w2 : kd = k := w2
    have w3 : fr = f := w3
    subst w1 w2 w3
    obtain ⟨t1, t2, t3, t4, t5⟩ : (s.2 = none ∨ s.2 = some fr) ∧ s.1 ≤ fr ∧ fr < to ∧ to ≤ b.length ∧ AllBlank b s.1 fr := ht
    obtain ⟨most, op, may, begun, came⟩ := n
    have g1 : begun = kd := g1
    subst g1
    have hb : ¬ begun = 0 := by omega
    have hlow : ∀ o ∈ op, o.fr < to := fun o ho => by have : o.fr < s.1 := hi.low o ho; omega
    show InvN (takeN ⟨most, op, may, begun, came⟩ ⟨begun, false, fr, to, tx⟩).1 (to, none) none ∧ DoesN ⟨most, op, may, begun, came⟩ (takeN ⟨most, op, may, begun, came⟩ ⟨begun, false, fr, to, tx⟩).1 _ none (takeN ⟨most, op, may, begun, came⟩ ⟨begun, false, fr, to, tx⟩).2.1
    unfold takeN
    rw [if_neg hb]
    by_cases hn : may.nam = true
    · rw [if_pos hn]
      have hp : evP ⟨most, op, may, begun, came⟩ (some (begun, fr)) = [] := by simp [evP, not_val hn]
      refine ⟨⟨hi.most, ?_, fun _ => ⟨rfl, rfl⟩, (fun k f e => by cases e), (fun h => by cases h), ?_⟩, .inl ⟨rfl, ?_, ?_⟩⟩
      · have := hi.deep
        show (nameO tx op).length ≤ most
        cases op with
        | nil => simp [nameO]
        | cons q r => simpa [nameO] using this
      · intro o ho
        cases op with
        | nil => cases ho
        | cons q r =>
          rcases List.mem_cons.1 ho with rfl | ho
          · exact hlow q (by simp)
          · exact hlow o (by simp [ho])
      · unfold evs
        rw [hp, evP_none, map_rev, map_rev, opE_name]
      · unfold cts
        rw [hp, evP_none, ctF_name]
        have : cB ⟨most, op, may, begun, came⟩ (some (begun, fr)) = 0 := by simp [cB, hp, nam_not hn]
        rw [this]
        rfl
    · rw [if_neg hn]
      have hv : may.val = true := by rcases g5 with h | h
                                     · exact h
                                     · exact absurd h hn
      have hp : evP ⟨most, op, may, begun, came⟩ (some (begun, fr)) = [⟨1, beginK begun, fr, 0, stepO op, []⟩] := by simp [evP, hv]
      refine ⟨⟨hi.most, ?_, fun _ => ⟨rfl, rfl⟩, (fun k f e => by cases e), ?_, ?_⟩, .inr (.inr ⟨_, ⟨1, beginK begun, fr, 0, stepO op, []⟩, 0, rfl, rfl, ?_, ?_, rfl, rfl, ?_, t3⟩)⟩
      · have := hi.deep
        show (moreO op).length ≤ most
        cases op with
        | nil => simp [moreO]
        | cons q r => simpa [moreO] using this
      · cases op with
        | nil => intro _; rfl
        | cons q r => intro h; cases h
      · intro o ho
        cases op with
        | nil => cases ho
        | cons q r =>
          rcases List.mem_cons.1 ho with rfl | ho
          · exact hlow q (by simp)
          · exact hlow o (by simp [ho])
      · unfold evs
        rw [hp, evP_none, map_rev, map_rev]
        show _ = (((moreO op).map opE).reverse ++ []) ++ _
        rw [opE_more]
        simp
      · unfold cts
        rw [hp, evP_none]
        show (ctF (cB ⟨most, op, may, begun, came⟩ (some (begun, fr))) op).reverse ++ _ = (ctF (cB { endedN ⟨most, op, may, begun, came⟩ with begun := 0 } none) (moreO op)).reverse ++ [] ++ _
        have e1 : cB ⟨most, op, may, begun, came⟩ (some (begun, fr)) = 1 := by simp [cB, hp]
        have e2 : cB { endedN (⟨most, op, may, begun, came⟩ : Nst) with begun := 0 } none = if op.isEmpty then 1 else 0 := by
          unfold cB
          rw [evP_none]
          cases op <;> rfl
        rw [e1, e2, ct_ended]
        simp
      · have hk : begun = 8 ∨ begun = 9 ∨ begun = 10 := by omega
        rcases hk with rfl | rfl | rfl
        · exact .inl rfl
        · exact .inl rfl
        · show scalarK ⟨10, false, fr, to, tx⟩ = beginK 10 ∨ scalarK ⟨10, false, fr, to, tx⟩ = 1
          unfold scalarK
          simp only []
          rw [if_neg (by decide), if_neg (by decide)]
          split
          · exact .inl rfl
          · exact .inr rfl

/-- Beside a fault there are no events; of one token there is one at most. -/
theorem takeN_one (n : Nst) (t : Tok) : ((takeN n t).2.2 ≠ 0 → (takeN n t).2.1 = []) ∧ (takeN n t).2.1.length ≤ 1 := by
  have ho : ((takeO n t).2.2 ≠ 0 → (takeO n t).2.1 = []) ∧ (takeO n t).2.1.length ≤ 1 := by
    obtain ⟨most, op, may, begun, came⟩ := n
    cases may <;> cases op <;> unfold takeO <;> simp only [] <;> (repeat' split) <;> simp [badN]
  unfold takeN
  split
  · exact ho
  · split <;> simp

/-- Does it hold others? -/
def Evt.holds (e : Evt) : Bool := e.value == 4 || e.value == 5
theorem evs_deep (n : Nst) (p : Option (Int × Nat)) : ((evs n p).filter Evt.holds).length = n.op.length := by
  unfold evs
  rw [List.filter_append, List.length_append]
  have h1 : ∀ l : List Opn, ((l.map opE).filter Evt.holds).length = l.length := by
    intro l
    induction l with
    | nil => rfl
    | cons o r ih =>
      have : (opE o).holds = true := by cases h : o.obj <;> simp [opE, Opn.kd, h, Evt.holds]
      simp only [List.map_cons, List.filter_cons, this, if_true, List.length_cons, ih]
  have h2 : (evP n p).filter Evt.holds = [] := by
    cases p with
    | none => rfl
    | some kf =>
      obtain ⟨k, f⟩ := kf
      show (if n.may.val then [(⟨1, beginK k, f, 0, stepO n.op, []⟩ : Evt)] else []).filter Evt.holds = []
      split
      · have : (⟨1, beginK k, f, 0, stepO n.op, []⟩ : Evt).holds = false := by
          unfold Evt.holds beginK
          simp only []
          (repeat' split) <;> rfl
        simp only [List.filter_cons, this, List.filter_nil]
        rfl
      · rfl
  rw [h1, h2]
  simp
/-- The whole value has ended. -/
theorem evs_done (n : Nst) (s : Nat × Option Nat) (p : Option (Int × Nat)) (hi : InvN n s p) : n.may.isNothing = true ↔ evs n p = [] ∧ (cts n p).head? = some 1 := by
  constructor
  · intro h
    have hop := hi.noth h
    cases p with
    | none => exact ⟨by simp [evs, hop, evP], by simp [cts, hop, evP, ctF, cB, h]⟩
    | some kf =>
      obtain ⟨k, f⟩ := kf
      have := (hi.some k f rfl).2.2.2.2
      exfalso
      cases hm : n.may <;> simp_all [May.isNothing, May.val, May.nam]
  · rintro ⟨h1, h2⟩
    have hop : n.op = [] := by
      unfold evs at h1
      simpa using (List.append_eq_nil_iff.1 h1).1
    have hp : evP n p = [] := (List.append_eq_nil_iff.1 h1).2
    unfold cts at h2
    rw [hop, hp] at h2
    cases hn : n.may.isNothing
    · simp [ctF, cB, hp, hn] at h2
    · rfl
theorem cts_len (n : Nst) (p : Option (Int × Nat)) : (cts n p).length = (evs n p).length + 1 := by
  have : ∀ (l : List Opn) (c : Nat), (ctF c l).length = l.length + 1 := by
    intro l
    induction l with
    | nil => intro c; rfl
    | cons o r ih => intro c; simp [ctF, ih]
  simp [cts, evs, this]
  omega

end Go.Proofs.Ytaklbbkjhbkieaa

namespace Go.Proofs.Ytaklbbkjhbkieaa
set_option linter.unusedVariables false

/-- Tokens, one by one, up to the first fault. -/
def takeAll : Nst → List Tok → Nst × List Evt × Int
  | n, [] => (n, [], 0)
  | n, t :: ts => if (takeN n t).2.2 ≠ 0 then takeN n t else ((takeAll (takeN n t).1 ts).1, (takeN n t).2.1 ++ (takeAll (takeN n t).1 ts).2.1, (takeAll (takeN n t).1 ts).2.2)
/-- A byte of a text: the events, the fault (0: none), where one is then. -/
def byteP (st : LSt) (n : Nst) (k : Nat) (c : UInt8) : List Evt × Int × LSt × Nst :=
  ((takeAll n (stepL st k c).1).2.1, if (takeAll n (stepL st k c).1).2.2 ≠ 0 then (takeAll n (stepL st k c).1).2.2 else if (stepL st k c).2.1 = 8 ∧ (takeAll n (stepL st k c).1).1.may.isNothing = true then 9 else (stepL st k c).2.1,
    (stepL st k c).2.2, (takeAll n (stepL st k c).1).1)
def May.isBad : May → Bool
  | .broken => true
  | _ => false
/-- No more tokens come. -/
def closeN (n : Nst) : Int := if n.may.isBad then 14 else if n.may.isNothing then 1 else if n.came then 10 else 11
/-- The end of a text: the events, the verdict. -/
def endP (st : LSt) (n : Nst) (k : Nat) : List Evt × Int := ((takeAll n (closeL st k).1).2.1, if (closeL st k).2 ≠ 1 then (closeL st k).2 else closeN (takeAll n (closeL st k).1).1)
/-- The bytes of a text from somewhere on: all events, the verdict's kind, and where. -/
def goP : LSt → Nst → List UInt8 → Nat → List Evt × Int × Nat
  | st, n, [], k => ((endP st n k).1, (endP st n k).2, k)
  | st, n, c :: t, k => if (byteP st n k c).2.1 ≠ 0 then ((byteP st n k c).1, (byteP st n k c).2.1, k) else
      ((byteP st n k c).1 ++ (goP (byteP st n k c).2.2.1 (byteP st n k c).2.2.2 t (k + 1)).1, (goP (byteP st n k c).2.2.1 (byteP st n k c).2.2.2 t (k + 1)).2)
def parseP (l : List UInt8) (d : Int) : List Evt × Int × Nat := goP .out (newN d) l 0

/-- A fault of a byte, not of the text's end. -/
def FK (f : Int) : Prop := f ≠ 0 ∧ f ≠ 1 ∧ f ≠ 10 ∧ f ≠ 11
def EK (f : Int) : Prop := f = 1 ∨ f = 10 ∨ f = 11

/-- What fits together: where one is in a token, and in what is open. -/
def Fit (st : LSt) (n : Nst) : Prop := n.may.isBad = false ∧ match st with
  | .out => n.begun = 0
  | .dead => False
  | _ => n.begun ≠ 0

theorem takeO_fault (n : Nst) (t : Tok) (hx : n.may.isBad = false) : ((takeO n t).2.2 ≠ 0 → FK (takeO n t).2.2) ∧ ((takeO n t).2.2 = 0 → (takeO n t).1.may.isBad = false ∧ (t.begun = false → (takeO n t).1.begun = n.begun) ∧ (t.begun = true → t.kind ≠ 0 → (takeO n t).1.begun ≠ 0)) := by
  obtain ⟨most, op, may, begun, came⟩ := n
  obtain ⟨kd, bg, fr, to, tx⟩ := t
  have h8 : FK 8 := ⟨by decide, by decide, by decide, by decide⟩
  have h9 : FK 9 := ⟨by decide, by decide, by decide, by decide⟩
  have h12 : FK 12 := ⟨by decide, by decide, by decide, by decide⟩
  cases may <;> first
    | (cases hx; done)
    | (cases op <;> cases bg <;> unfold takeO <;> simp only [] <;> (repeat' split) <;> first
        | contradiction
        | exact ⟨fun _ => h8, fun h => absurd h (by show (8 : Int) ≠ 0; decide)⟩
        | exact ⟨fun _ => h9, fun h => absurd h (by show (9 : Int) ≠ 0; decide)⟩
        | exact ⟨fun _ => h12, fun h => absurd h (by show (12 : Int) ≠ 0; decide)⟩
        | (refine ⟨fun h => absurd rfl h, fun _ => ⟨?_, ?_, ?_⟩⟩
           · first
               | rfl
               | (split <;> rfl)
               | (simp only [endedN]; split <;> rfl)
           · first
               | (intro h; cases h; done)
               | (intro _; rfl)
           · first
               | (intro h; cases h; done)
               | (intro _ _; show (8 : Int) ≠ 0; decide)
               | (intro _ h; exact h)))
theorem takeN_end (n : Nst) (t : Tok) (hx : n.may.isBad = false) (hb : n.begun ≠ 0) : (takeN n t).2.2 = 0 ∧ (takeN n t).1.may.isBad = false ∧ (takeN n t).1.begun = 0 := by
  unfold takeN
  rw [if_neg hb]
  split
  · exact ⟨rfl, rfl, rfl⟩
  · refine ⟨rfl, ?_, rfl⟩
    simp only [endedN]
    split <;> rfl

/-- A byte outside of tokens. -/
theorem out_fit (n : Nst) (k : Nat) (c : UInt8) (hx : n.may.isBad = false) (hb : n.begun = 0) (f : Int) (hf : f = if (takeAll n (outL k c).1).2.2 ≠ 0 then (takeAll n (outL k c).1).2.2 else if (outL k c).2.1 = 8 ∧ (takeAll n (outL k c).1).1.may.isNothing = true then 9 else (outL k c).2.1) :
    (f ≠ 0 → FK f) ∧ (f = 0 → Fit (outL k c).2.2 (takeAll n (outL k c).1).1) := by
  have one : ∀ (t : Tok) (st : LSt), f = (if (takeAll n [t]).2.2 ≠ 0 then (takeAll n [t]).2.2 else if (0 : Int) = 8 ∧ (takeAll n [t]).1.may.isNothing = true then 9 else 0) → (∀ m : Nst, m.may.isBad = false → (t.begun = false → m.begun = 0) → (t.begun = true → m.begun ≠ 0) → Fit st m) → t.kind ≠ 0 →
      (f ≠ 0 → FK f) ∧ (f = 0 → Fit st (takeAll n [t]).1) := by
    intro t st hf hst hk
    have e : takeN n t = takeO n t := by unfold takeN; rw [if_pos hb]
    obtain ⟨h1, h2⟩ := takeO_fault n t hx
    by_cases h0 : (takeO n t).2.2 = 0
    · have ea : takeAll n [t] = ((takeO n t).1, (takeO n t).2.1 ++ [], 0) := by
        show (if (takeN n t).2.2 ≠ 0 then takeN n t else ((takeN n t).1, (takeN n t).2.1 ++ [], 0)) = _
        rw [e, if_neg (fun h => h h0)]
      rw [ea] at hf ⊢
      have hf0 : f = 0 := by rw [hf]; simp
      refine ⟨fun h => absurd hf0 h, fun _ => ?_⟩
      obtain ⟨g1, g2, g3⟩ := h2 h0
      exact hst _ g1 (fun h => (g2 h).trans hb) (fun h => g3 h hk)
    · have ea : takeAll n [t] = takeO n t := by
        show (if (takeN n t).2.2 ≠ 0 then takeN n t else _) = _
        rw [e, if_pos h0]
      rw [ea, if_pos h0] at hf
      refine ⟨fun _ => by rw [hf]; exact h1 h0, fun h => absurd (hf.symm.trans h) h0⟩
  unfold outL at hf ⊢
  split at hf
  · rename_i h1
    rw [if_pos h1]
    have : f = 0 := by rw [hf]; simp [takeAll]
    exact ⟨fun h => absurd this h, fun _ => ⟨hx, hb⟩⟩
  · rename_i h1
    rw [if_neg h1]
    split at hf
    · rename_i h2
      rw [if_pos h2]
      have : f = 9 ∨ f = 8 := by
        rw [hf]
        simp only [takeAll]
        split
        · rename_i h; exact absurd rfl h
        · split
          · exact .inl rfl
          · exact .inr rfl
      rcases this with h | h <;> rw [h] <;> exact ⟨fun _ => ⟨by decide, by decide, by decide, by decide⟩, fun h => absurd h (by decide)⟩
    · rename_i h2
      rw [if_neg h2]
      split at hf
      · rename_i h3
        rw [if_pos h3]
        exact one _ .out hf (fun m g1 g2 _ => ⟨g1, g2 rfl⟩) h2
      · rename_i h3
        rw [if_neg h3]
        split at hf
        · rename_i h4
          rw [if_pos h4]
          exact one _ _ hf (fun m g1 _ g3 => ⟨g1, g3 rfl⟩) (by show (8 : Int) ≠ 0; decide)
        · rename_i h4
          rw [if_neg h4]
          split at hf
          · rename_i h5
            rw [if_pos h5]
            exact one _ _ hf (fun m g1 _ g3 => ⟨g1, g3 rfl⟩) (by show (9 : Int) ≠ 0; decide)
          · rename_i h5
            rw [if_neg h5]
            exact one _ _ hf (fun m g1 _ g3 => ⟨g1, g3 rfl⟩) (by show (10 : Int) ≠ 0; decide)

theorem faultQ_fk (q : QSt) (c : UInt8) : FK (faultQ q c) := by
  have h : ∀ k : Int, k = 2 ∨ k = 3 ∨ k = 4 ∨ k = 7 ∨ k = 14 → FK k := fun k hk => by
    rcases hk with rfl | rfl | rfl | rfl | rfl <;> exact ⟨by decide, by decide, by decide, by decide⟩
  apply h
  cases q <;> unfold faultQ <;> (repeat' split) <;> simp

/-- A byte: the fault, or where one is. -/
theorem byteP_fit (st : LSt) (n : Nst) (k : Nat) (c : UInt8) (h : Fit st n) : ((byteP st n k c).2.1 ≠ 0 → FK (byteP st n k c).2.1) ∧ ((byteP st n k c).2.1 = 0 → Fit (byteP st n k c).2.2.1 (byteP st n k c).2.2.2) := by
  obtain ⟨hx, h⟩ := h
  have f5 : FK 5 := ⟨by decide, by decide, by decide, by decide⟩
  have f6 : FK 6 := ⟨by decide, by decide, by decide, by decide⟩
  have nine : ∀ f : Int, FK f → ∀ z : Bool, FK (if f = 8 ∧ z = true then 9 else f) := fun f hf z => by
    split
    · exact ⟨by decide, by decide, by decide, by decide⟩
    · exact hf
  -- no tokens, and a fault or none
  have none : ∀ (f : Int) (st' : LSt), stepL st k c = ([], f, st') → (f = 0 → Fit st' n) → (f ≠ 0 → FK f) → ((byteP st n k c).2.1 ≠ 0 → FK (byteP st n k c).2.1) ∧ ((byteP st n k c).2.1 = 0 → Fit (byteP st n k c).2.2.1 (byteP st n k c).2.2.2) := by
    intro f st' e h1 h2
    have e1 : (byteP st n k c).2.1 = if f = 8 ∧ n.may.isNothing = true then 9 else f := by
      unfold byteP
      rw [e]
      show (if (0 : Int) ≠ 0 then (0 : Int) else if f = 8 ∧ n.may.isNothing = true then 9 else f) = _
      rw [if_neg (by decide)]
    have e2 : (byteP st n k c).2.2.1 = st' := by unfold byteP; rw [e]
    have e3 : (byteP st n k c).2.2.2 = n := by unfold byteP; rw [e]; rfl
    rw [e1, e2, e3]
    by_cases h0 : f = 0
    · subst h0
      rw [if_neg (by rintro ⟨h, _⟩; cases h)]
      exact ⟨fun h => absurd rfl h, fun _ => h1 rfl⟩
    · exact ⟨fun _ => nine f (h2 h0) _, fun h => absurd h (nine f (h2 h0) _).1⟩
  -- one token that ends
  have one : ∀ (t : Tok) (st' : LSt), stepL st k c = ([t], 0, st') → n.begun ≠ 0 → (∀ m : Nst, m.may.isBad = false → m.begun = 0 → Fit st' m) → ((byteP st n k c).2.1 ≠ 0 → FK (byteP st n k c).2.1) ∧ ((byteP st n k c).2.1 = 0 → Fit (byteP st n k c).2.2.1 (byteP st n k c).2.2.2) := by
    intro t st' e hb h1
    obtain ⟨g1, g2, g3⟩ := takeN_end n t hx hb
    have ea : takeAll n [t] = ((takeN n t).1, (takeN n t).2.1 ++ [], 0) := by
      show (if (takeN n t).2.2 ≠ 0 then takeN n t else ((takeN n t).1, (takeN n t).2.1 ++ [], 0)) = _
      rw [if_neg (fun h => h g1)]
    have e1 : (byteP st n k c).2.1 = 0 := by
      unfold byteP
      rw [e, ea]
      simp
    have e2 : (byteP st n k c).2.2.1 = st' := by unfold byteP; rw [e]
    have e3 : (byteP st n k c).2.2.2 = (takeN n t).1 := by unfold byteP; rw [e, ea]
    rw [e1, e2, e3]
    exact ⟨fun h => absurd rfl h, fun _ => h1 _ g2 g3⟩
  cases st with
  | dead => exact h.elim
  | out => exact out_fit n k c hx h _ rfl
  | num a f p =>
    have h : n.begun ≠ 0 := h
    by_cases h1 : nxI a c.toNat ≠ 0
    · exact none 0 (.num (nxI a c.toNat) f (p ++ [c])) (by show (if _ then _ else _) = _; rw [if_pos h1]) (fun _ => ⟨hx, h⟩) (fun h => absurd rfl h)
    · by_cases h2 : (whI a && !stickI c.toNat) = true
      · obtain ⟨g1, g2, g3⟩ := takeN_end n ⟨9, false, f, k, p⟩ hx h
        have e : stepL (.num a f p) k c = (⟨9, false, f, k, p⟩ :: (outL k c).1, (outL k c).2.1, (outL k c).2.2) := by show (if _ then _ else if _ then _ else _) = _; rw [if_neg h1, if_pos h2]
        have ea : takeAll n (⟨9, false, f, k, p⟩ :: (outL k c).1) = ((takeAll (takeN n ⟨9, false, f, k, p⟩).1 (outL k c).1).1, (takeN n ⟨9, false, f, k, p⟩).2.1 ++ (takeAll (takeN n ⟨9, false, f, k, p⟩).1 (outL k c).1).2.1, (takeAll (takeN n ⟨9, false, f, k, p⟩).1 (outL k c).1).2.2) := by
          show (if _ then _ else _) = _
          rw [if_neg (fun h => h g1)]
        have := out_fit (takeN n ⟨9, false, f, k, p⟩).1 k c g2 g3 _ rfl
        unfold byteP
        rw [e]
        simp only [ea]
        exact this
      · exact none 5 .dead (by show (if _ then _ else if _ then _ else _) = _; rw [if_neg h1, if_neg h2]) (fun h => absurd h (by decide)) (fun _ => f5)
  | word f p =>
    have h : n.begun ≠ 0 := h
    by_cases h1 : refL (p ++ [c]) = 2
    · exact none 6 .dead (by show (if _ then _ else if _ then _ else _) = _; rw [if_pos h1]) (fun h => absurd h (by decide)) (fun _ => f6)
    · by_cases h2 : refL (p ++ [c]) = 1
      · exact one ⟨10, false, f, k + 1, p ++ [c]⟩ .out (by show (if _ then _ else if _ then _ else _) = _; rw [if_neg h1, if_pos h2]) h (fun m g1 g2 => ⟨g1, g2⟩)
      · exact none 0 (.word f (p ++ [c])) (by show (if _ then _ else if _ then _ else _) = _; rw [if_neg h1, if_neg h2]) (fun _ => ⟨hx, h⟩) (fun h => absurd rfl h)
  | str q f acc =>
    have h : n.begun ≠ 0 := h
    have e : stepL (.str q f acc) k c = strL q f acc k c (stepQ q c) := rfl
    cases hs : stepQ q c with
    | none =>
      rw [hs] at e
      exact none _ .dead e (fun h => absurd h (faultQ_fk q c).1) (fun _ => faultQ_fk q c)
    | some x =>
      obtain ⟨q', y⟩ := x
      rw [hs] at e
      by_cases hd : q' = .done
      · subst hd
        exact one _ .out e h (fun m g1 g2 => ⟨g1, g2⟩)
      · have e' : strL q f acc k c (some (q', y)) = ([], 0, .str q' f (acc ++ y)) := by cases q' <;> first | rfl | exact absurd rfl hd
        rw [e'] at e
        exact none 0 _ e (fun _ => ⟨hx, h⟩) (fun h => absurd rfl h)

theorem endP_kind (st : LSt) (n : Nst) (k : Nat) (h : Fit st n) : EK (endP st n k).2 := by
  obtain ⟨hx, h⟩ := h
  have hc : ∀ m : Nst, m.may.isBad = false → EK (closeN m) := fun m hm => by
    unfold closeN
    rw [hm]
    simp only [Bool.false_eq_true, if_false]
    split
    · exact .inl rfl
    · split
      · exact .inr (.inl rfl)
      · exact .inr (.inr rfl)
  cases st with
  | dead => exact h.elim
  | out => exact hc n hx
  | num a f p =>
    have h : n.begun ≠ 0 := h
    by_cases h2 : whI a = true
    · obtain ⟨g1, g2, g3⟩ := takeN_end n ⟨9, false, f, k, p⟩ hx h
      have e : closeL (.num a f p) k = ([⟨9, false, f, k, p⟩], 1) := by show (if _ then _ else _) = _; rw [if_pos h2]
      have ea : takeAll n [⟨9, false, f, k, p⟩] = ((takeN n ⟨9, false, f, k, p⟩).1, (takeN n ⟨9, false, f, k, p⟩).2.1 ++ [], 0) := by
        show (if _ then _ else _) = _
        rw [if_neg (fun h => h g1)]
        rfl
      unfold endP
      rw [e]
      simp only [ea]
      exact hc _ g2
    · have e : closeL (.num a f p) k = ([], 10) := by show (if _ then _ else _) = _; rw [if_neg h2]
      unfold endP
      rw [e]
      exact .inr (.inl rfl)
  | word f p => exact .inr (.inl rfl)
  | str q f acc => exact .inr (.inl rfl)

/-- The least place: the fault is found by the bytes up to it alone. -/
theorem goP_least (l : List UInt8) : ∀ (st : LSt) (n : Nst) (k : Nat), Fit st n →
    (EK (goP st n l k).2.1 ∧ (goP st n l k).2.2 = k + l.length) ∨
    (FK (goP st n l k).2.1 ∧ ∃ p, p < l.length ∧ (goP st n l k).2.2 = k + p ∧ (∀ more, (goP st n (l.take (p + 1) ++ more) k).2 = (goP st n l k).2) ∧ EK (goP st n (l.take p) k).2.1) := by
  induction l with
  | nil => intro st n k h; exact .inl ⟨endP_kind st n k h, rfl⟩
  | cons c t ih =>
    intro st n k h
    obtain ⟨h1, h2⟩ := byteP_fit st n k c h
    by_cases hf : (byteP st n k c).2.1 ≠ 0
    · have e : goP st n (c :: t) k = ((byteP st n k c).1, (byteP st n k c).2.1, k) := by show (if _ then _ else _) = _; rw [if_pos hf]
      refine .inr ⟨by rw [e]; exact h1 hf, 0, by simp, by rw [e]; rfl, fun more => ?_, endP_kind st n k h⟩
      rw [e]
      show (goP st n (c :: more) k).2 = _
      have : goP st n (c :: more) k = ((byteP st n k c).1, (byteP st n k c).2.1, k) := by show (if _ then _ else _) = _; rw [if_pos hf]
      rw [this]
    · have hf0 : (byteP st n k c).2.1 = 0 := Decidable.not_not.1 hf
      have e : ∀ s, (goP st n (c :: s) k).2 = (goP (byteP st n k c).2.2.1 (byteP st n k c).2.2.2 s (k + 1)).2 := fun s => by
        have : goP st n (c :: s) k = ((byteP st n k c).1 ++ (goP (byteP st n k c).2.2.1 (byteP st n k c).2.2.2 s (k + 1)).1, (goP (byteP st n k c).2.2.1 (byteP st n k c).2.2.2 s (k + 1)).2) := by show (if _ then _ else _) = _; rw [if_neg hf]
        rw [this]
      rcases ih _ _ (k + 1) (h2 hf0) with ⟨g1, g2⟩ | ⟨g1, p, g2, g3, g4, g5⟩
      · exact .inl ⟨by rw [e]; exact g1, by rw [e, g2]; simp; omega⟩
      · refine .inr ⟨by rw [e]; exact g1, p + 1, by simp; exact g2, by rw [e, g3]; omega, fun more => ?_, ?_⟩
        · rw [List.take_succ_cons, List.cons_append, e, e]
          exact g4 more
        · rw [List.take_succ_cons, e]
          exact g5
theorem fit_start (d : Int) : Fit .out (newN d) := ⟨rfl, rfl⟩
theorem parseP_least (l : List UInt8) (d : Int) :
    (EK (parseP l d).2.1 ∧ (parseP l d).2.2 = l.length) ∨
    (FK (parseP l d).2.1 ∧ (parseP l d).2.2 < l.length ∧ (∀ more, (parseP (l.take ((parseP l d).2.2 + 1) ++ more) d).2 = (parseP l d).2) ∧ EK (parseP (l.take (parseP l d).2.2) d).2.1) := by
  rcases goP_least l .out (newN d) 0 (fit_start d) with ⟨h1, h2⟩ | ⟨h1, p, h2, h3, h4, h5⟩
  · exact .inl ⟨h1, by unfold parseP; omega⟩
  · have e : (parseP l d).2.2 = p := by unfold parseP; omega
    rw [e]
    exact .inr ⟨h1, h2, h4, h5⟩

end Go.Proofs.Ytaklbbkjhbkieaa

namespace Go.Proofs.Ytaklbbkjhbkieaa
set_option linter.unusedVariables false

/-- A value: its kind, where it stands, its text, its items and their names. -/
inductive Tree where
  | mk (kd : Int) (fr to : Nat) (tx : List UInt8) (items : List Tree) (names : List (List UInt8))
def Tree.kd : Tree → Int
  | .mk kd _ _ _ _ _ => kd
def Tree.fr : Tree → Nat
  | .mk _ fr _ _ _ _ => fr
def Tree.to : Tree → Nat
  | .mk _ _ to _ _ _ => to
def Tree.tx : Tree → List UInt8
  | .mk _ _ _ tx _ _ => tx
def Tree.items : Tree → List Tree
  | .mk _ _ _ _ items _ => items
def Tree.names : Tree → List (List UInt8)
  | .mk _ _ _ _ _ names => names
/-- A value that has ended, in the one that it is in. -/
def addT (t : Tree) (s : Stp) : Tree → Tree
  | .mk kd fr to tx items names => .mk kd fr to tx (items ++ [t]) (if s.named then names ++ [s.name] else names)
/-- What is open, the innermost first, with its step; the whole, once it has ended. -/
structure Bld where
  op : List (Tree × Stp)
  root : Option Tree
def bldE (b : Bld) (e : Evt) : Bld :=
  if e.kind = 1 then { b with op := (.mk e.value e.fr 0 [] [] [], e.step) :: b.op }
  else match b.op with
    | [] => b
    | [(.mk _ fr _ _ items names, s)] => ⟨[], some (.mk e.value fr e.to e.text items names)⟩
    | (.mk _ fr _ _ items names, s) :: (p, ps) :: r => { b with op := (addT (.mk e.value fr e.to e.text items names) s p, ps) :: r }
def bldA (b : Bld) (es : List Evt) : Bld := es.foldl bldE b
def treeE (es : List Evt) : Tree := (bldA ⟨[], none⟩ es).root.getD (.mk 0 0 0 [] [] [])
/-- The value of a text. -/
def treeP (l : List UInt8) (d : Int) : Tree := treeE (parseP l d).1

mutual
/-- Are two values the same, wherever they stand? -/
def sameT : Tree → Tree → Bool
  | .mk k1 _ _ t1 i1 n1, .mk k2 _ _ t2 i2 n2 => decide (k1 = k2) && decide (t1 = t2) && decide (n1 = n2) && sameL i1 i2
def sameL : List Tree → List Tree → Bool
  | [], [] => true
  | a :: r, b :: s => sameT a b && sameL r s
  | _, _ => false
end

end Go.Proofs.Ytaklbbkjhbkieaa

namespace Go.Proofs.Ytaklbbkjhbkieaa
open Go.RowKit
set_option linter.unusedVariables false

/-- How elements lie in a slice: their type, the slices' type, how many cells and bytes each takes, and which. -/
structure RowK (α : Type) where
  T : TypeId
  S : TypeId
  n : Nat
  bytes : Nat
  zero : Value
  enc : α → List Value
  pos : 0 < n
  len : ∀ a, (enc a).length = n
  one : ∀ a, ∀ u ∈ enc a, u.oneCell' = true
  under : Try.prog.underlying S = some (.slice T)
  info : (Try.prog.info? T).map (fun i => (i.zero, i.size, i.bytes)) = some (some zero, n, bytes)
  zlen : zero.cells.size = n
  small : bytes ≤ 1000

section
variable {α : Type} (K : RowK α)
/-- The cells of elements, one behind the other. -/
def RowK.all : List α → List Value
  | [] => []
  | a :: t => K.enc a ++ RowK.all t
theorem RowK.all_len : ∀ l : List α, (K.all l).length = l.length * K.n
  | [] => by simp [RowK.all]
  | a :: t => by simp [RowK.all, K.len, RowK.all_len t, Nat.add_mul]; omega
theorem RowK.all_append : ∀ l m : List α, K.all (l ++ m) = K.all l ++ K.all m
  | [], m => rfl
  | a :: t, m => by simp [RowK.all, RowK.all_append t m]
theorem RowK.all_one : ∀ l : List α, ∀ u ∈ K.all l, u.oneCell' = true
  | [], u, h => by cases h
  | a :: t, u, h => by
    rcases List.mem_append.1 h with h | h
    · exact K.one a u h
    · exact RowK.all_one t u h
theorem RowK.all_at : ∀ (l : List α) (i : Nat) (a : α), l[i]? = some a → ∀ j, j < K.n → (K.all l)[i * K.n + j]? = (K.enc a)[j]?
  | [], i, a, h => by cases h
  | u :: t, 0, a, h => by
    intro j hj
    obtain rfl : u = a := by simpa using h
    show (K.enc u ++ K.all t)[0 * K.n + j]? = _
    rw [Nat.zero_mul, Nat.zero_add, List.getElem?_append_left (by rw [K.len]; exact hj)]
  | u :: t, i + 1, a, h => by
    intro j hj
    have := RowK.all_at t i a (by simpa using h) j hj
    rw [← this]
    show (K.enc u ++ K.all t)[(i + 1) * K.n + j]? = _
    rw [List.getElem?_append_right (by rw [K.len, Nat.add_mul]; omega), K.len]
    congr 1
    rw [Nat.add_mul]
    omega
theorem RowK.all_take : ∀ (l : List α) (k : Nat), K.all (l.take k) = (K.all l).take (k * K.n)
  | [], k => by simp [RowK.all]
  | a :: t, 0 => by simp [RowK.all]
  | a :: t, k + 1 => by
    rw [List.take_succ_cons]
    show K.enc a ++ K.all (t.take k) = (K.enc a ++ K.all t).take ((k + 1) * K.n)
    have e1 : (K.enc a).take ((k + 1) * K.n) = K.enc a := List.take_of_length_le (by rw [K.len, Nat.add_mul]; omega)
    have e2 : (k + 1) * K.n - K.n = k * K.n := by rw [Nat.add_mul]; omega
    rw [RowK.all_take t k, List.take_append, K.len, e1, e2]

/-- What a slice of such elements reads as. -/
def RdG (w : World) (A : Option Addr) (m : Nat) (l : List α) : Prop :=
  l.length = m ∧ (0 < m → ∃ b o : Nat, A = some ⟨b, o, none⟩ ∧ b < w.heap.size ∧ ∀ j u, (K.all l)[j]? = some u → w.cell? ⟨b, o + j, none⟩ = some u)
/-- A slice of such elements of the call's own: its block is none below base. -/
def GRow (w : World) (base : Nat) (v : Value) (l : List α) : Prop := w.ownsRow base K.T K.n v l.length (K.all l)

variable {K} {w w' : World} {base : Nat} {v : Value} {l : List α}
theorem GRow.nil (w : World) (base : Nat) : GRow K w base (.slice none 0 0) [] := ⟨by simp [RowK.all], .inl ⟨rfl, rfl⟩⟩
theorem GRow.form (h : GRow K w base v l) : ∃ A c, v = .slice A l.length c ∧ l.length ≤ c ∧ c ≤ maxLen ∧ (0 < l.length → ∃ g, A = some ⟨g, 0, none⟩ ∧ base ≤ g ∧ g < w.heap.size) := by
  rcases h.2 with ⟨rfl, h0⟩ | ⟨g, c, cur, rfl, hb, hg, h1, h2, _⟩
  · exact ⟨none, 0, by rw [h0], by omega, by decide, fun h => by omega⟩
  · exact ⟨_, c, rfl, h1, h2, fun _ => ⟨g, rfl, hb, (Array.getElem?_eq_some_iff.1 hg).1⟩⟩
theorem GRow.stay (h : GRow K w base v l) (hk : ∀ g, v.ownBlock = some g → w'.heap[g]? = w.heap[g]?) : GRow K w' base v l := by
  refine ⟨h.1, ?_⟩
  rcases h.2 with hn | ⟨g, c, cur, rfl, hbg, hg, rest⟩
  · exact .inl hn
  · exact .inr ⟨g, c, cur, rfl, hbg, (hk g rfl).trans hg, rest⟩
theorem GRow.low (h : GRow K w base v l) {g : Nat} (hg : v.ownBlock = some g) : base ≤ g ∧ g < w.heap.size := by
  rcases h.2 with ⟨rfl, _⟩ | ⟨g', c, cur, rfl, hb, hh, _⟩
  · cases hg
  · obtain rfl : g' = g := by simpa [Value.ownBlock] using hg
    exact ⟨hb, (Array.getElem?_eq_some_iff.1 hh).1⟩
theorem GRow.mono {B : Nat} (h : GRow K w base v l) (hB : B ≤ base) : GRow K w B v l := by
  refine ⟨h.1, ?_⟩
  rcases h.2 with hn | ⟨g, c, cur, rfl, hbg, rest⟩
  · exact .inl hn
  · exact .inr ⟨g, c, cur, rfl, by omega, rest⟩
theorem GRow.rd {A : Option Addr} {m c : Nat} (h : GRow K w base (.slice A m c) l) : RdG K w A l.length l := by
  refine ⟨rfl, fun hn => ?_⟩
  rcases h.2 with ⟨hv, h0⟩ | ⟨g, c', cur, hv, hb, hg, _⟩
  · omega
  · injection hv with hA hn' hc
    subst hA hn' hc
    have hc := h.cells (g := g) rfl
    refine ⟨g, 0, rfl, (Array.getElem?_eq_some_iff.1 hg).1, fun j u hu => ?_⟩
    have := hc j u hu
    rwa [add_none] at this
/-- An element's cells. -/
theorem RdG.at {A : Option Addr} {m : Nat} (h : RdG K w A m l) {b o : Nat} (hA : A = some ⟨b, o, none⟩) {i : Nat} {a : α} (ha : l[i]? = some a) {j : Nat} {u : Value} (hu : (K.enc a)[j]? = some u) : w.cell? ⟨b, o + (i * K.n + j), none⟩ = some u := by
  have hi : i < l.length := (List.getElem?_eq_some_iff.1 ha).1
  obtain ⟨b', o', e, _, hc⟩ := h.2 (by have := h.1; omega)
  rw [hA] at e
  injection e with e
  injection e with e1 e2
  subst e1 e2
  have hj : j < K.n := by
    have := (List.getElem?_eq_some_iff.1 hu).1
    rwa [K.len] at this
  exact hc _ _ ((K.all_at l i a ha j hj).trans hu)
/-- Elements just made. -/
theorem GRow.made (w : World) (cs : Array Value) (hc : cs = (K.all l).toArray) (hl : l.length ≤ maxLen) (hb : base ≤ w.heap.size) : GRow K (w.alloc (.cells cs K.T)) base (.slice (some ⟨w.heap.size, 0, none⟩) l.length l.length) l := by
  subst hc
  refine ⟨K.all_len l, .inr ⟨w.heap.size, l.length, _, rfl, hb, heap_alloc_new w _, Nat.le_refl _, hl, by simp [K.all_len], ?_⟩⟩
  rw [List.take_of_length_le]
  simp [K.all_len]
/-- Cut off behind the first k. -/
theorem GRow.cut {A : Option Addr} {m c k : Nat} (h : GRow K w base (.slice A m c) l) (hk : k ≤ l.length) : GRow K w base (.slice A k c) (l.take k) := by
  have hl : (l.take k).length = k := by simp; omega
  unfold GRow at h ⊢
  rw [hl]
  refine ⟨by rw [K.all_len, hl], ?_⟩
  rcases h.2 with ⟨hv, h0⟩ | ⟨g, c', cur, hv, hb, hg, h1, h2, h3, h4⟩
  · injection hv with hA hm hc
    obtain rfl : k = 0 := by omega
    exact .inl ⟨by rw [hA, hc], rfl⟩
  · injection hv with hA hm hc
    refine .inr ⟨g, c', cur, by rw [hA, hc], hb, hg, by omega, h2, h3, ?_⟩
    rw [K.all_take, ← h4, List.take_take, Nat.min_eq_left (Nat.mul_le_mul_right _ hk)]
/-- One element of one cell written over. -/
theorem GRow.put {g m c i : Nat} {a : α} {u : Value} (h1 : K.n = 1) (h : GRow K w base (.slice (some ⟨g, 0, none⟩) m c) l) (hi : i < l.length) (hu : K.enc a = [u]) : GRow K (w.setCell ⟨g, i, none⟩ u) base (.slice (some ⟨g, 0, none⟩) m c) (l.set i a) := by
  have hset : ∀ (l : List α) (i : Nat), i < l.length → K.all (l.set i a) = (K.all l).set i u := by
    intro l
    induction l with
    | nil => intro i h; simp at h
    | cons b t ih =>
      intro i hi
      obtain ⟨x, hx⟩ : ∃ x, K.enc b = [x] := by
        have := K.len b
        rw [h1] at this
        exact List.length_eq_one_iff.1 this
      cases i with
      | zero => show K.enc a ++ K.all t = (K.enc b ++ K.all t).set 0 u; rw [hu, hx]; rfl
      | succ i =>
        show K.enc b ++ K.all (t.set i a) = (K.enc b ++ K.all t).set (i + 1) u
        rw [hx, ih i (by simpa using hi)]; rfl
  unfold GRow at h ⊢
  rw [List.length_set, hset l i hi]
  refine ⟨by rw [List.length_set]; exact h.1, ?_⟩
  rcases h.2 with ⟨hv, h0⟩ | ⟨g', c', cur, hv, hb, hg, g1, g2, g3, g4⟩
  · cases hv
  · injection hv with hA hm hc
    injection hA with hA
    injection hA with hA
    subst hA
    refine .inr ⟨g, c', cur.setIfInBounds i u, by rw [hm, hc], hb, ?_, g1, g2, by simpa using g3, ?_⟩
    · simp [World.setCell, Array.getElem?_modify, hg]
    · rw [Array.toList_setIfInBounds, List.take_set, g4]

theorem GRow.free {g m c : Nat} (h : GRow K w base (.slice (some ⟨g, 0, none⟩) m c) l) (i : Nat) : w.frozen? ⟨g, i, none⟩ = false := by
  rcases h.2 with ⟨hv, h0⟩ | ⟨g', c', cur, hv, hb, hg, _⟩
  · cases hv
  · injection hv with hA hm hc
    injection hA with hA
    injection hA with hA
    subst hA
    simp [World.frozen?, hg]

theorem run_row_append (w : World) (base : Nat) (ty : TypeId) (v : Value) (l : List α) (hown : GRow K w base v l) (A : Option Addr) (m c : Nat) (news : List α) (hr : RdG K w A m news)
    (h63 : l.length + m ≤ 1000000000) (hbase : base ≤ w.heap.size) :
    ∃ v' w', (Builtin.append_ #[K.S, K.S] ty #[v, .slice A m c]).run Try.prog w = .ok v' w' ∧ GRow K w' base v' (l ++ news) ∧ w.grownBy w' v.ownBlock ∧ (v'.ownBlock = v.ownBlock ∨ v'.ownBlock = some w.heap.size) := by
  obtain ⟨i, hi, hz, hsize, hby⟩ := info_parts K.info
  have hl : (l ++ news).length = l.length + m := by rw [List.length_append, hr.1]
  cases A with
  | none =>
    have hm : m = 0 := by
      by_cases h : 0 < m
      · obtain ⟨b, o, e, _⟩ := hr.2 h
        cases e
      · omega
    subst hm
    obtain rfl : news = [] := List.eq_nil_of_length_eq_zero hr.1
    refine ⟨v, w, ?_, by simpa using hown, ⟨rfl, rfl, rfl, Nat.le_refl _, fun _ _ _ => rfl⟩, .inl rfl⟩
    have ht := K.under
    rcases hown.2 with ⟨rfl, h0⟩ | ⟨g, cap, cur, rfl, _, _, hnc, _⟩
    · simp [Builtin.append_, run_underlying ht, sizeOf, typeInfo, hi, Builtin.lenOf, Builtin.firstCells]
    · simp [Builtin.append_, run_underlying ht, sizeOf, typeInfo, hi, Builtin.lenOf, Builtin.firstCells, hnc, storeCells]
  | some ad =>
    have hc : ∀ j u, (K.all news)[j]? = some u → w.cell? (ad.add j) = some u := by
      intro j u hu
      have hm : 0 < m := by
        have h1 := hr.1
        have h2 := (List.getElem?_eq_some_iff.1 hu).1
        rw [K.all_len] at h2
        rcases Nat.eq_zero_or_pos news.length with h | h
        · rw [h] at h2; simp at h2
        · omega
      obtain ⟨b, o, e, _, h⟩ := hr.2 hm
      have e' : ad = ⟨b, o, none⟩ := Option.some.inj e
      rw [e', add_none]
      exact h j u hu
    have hbytes : (l.length + m) * K.bytes ≤ 140737488355328 := by
      have := Nat.mul_le_mul h63 K.small
      omega
    obtain ⟨v', w', h1, h2, h3, _, h5⟩ := run_append_own_at (P := Try.prog) w base K.S ty K.T i _ K.n K.bytes K.under hi hz hsize hby K.zlen K.pos v l.length (K.all l) hown ad m c (K.all news) (by rw [K.all_len, hr.1]) hc (K.all_one news) (by unfold maxLen; omega) hbytes hbase
    refine ⟨v', w', h1, ?_, h3, h5⟩
    unfold GRow
    rw [hl, K.all_append]
    exact h2

/-- Appending elements. -/
theorem row_append {ops : Array Oper} {rest : List Oper} {o : Oper} {a : Act} {Q : Exit → Act → World → Prop} (w : World) (hgd : o.guard = none) (s x : Operand) (ho : o.op = .call { callee := .builtin .append, args := #[s, x], argTypes := #[K.S, K.S] })
    (base : Nat) (v : Value) (l : List α) (hs : a.eval s = v) (hown : GRow K w base v l) (A : Option Addr) (m c : Nat) (news : List α) (hx : a.eval x = .slice A m c) (hr : RdG K w A m news)
    (h63 : l.length + m ≤ 1000000000) (hbase : base ≤ w.heap.size)
    (h : ∀ v' w', GRow K w' base v' (l ++ news) → w.grownBy w' v.ownBlock → (v'.ownBlock = v.ownBlock ∨ v'.ownBlock = some w.heap.size) → wpList Try.prog ops Q rest (a.put o.dst v') w') : wpList Try.prog ops Q (o :: rest) a w :=
  wpList_plain hgd fun _ hK => by
    obtain ⟨v', w', hrun, h2, h3, h5⟩ := run_row_append w base o.type v l hown A m c news hr h63 hbase
    unfold Oper.wp execOp
    simp only [ho, resolve, invoke, builtin, Sem.run_bind, Sem.run_pure, Result.andThen_ok, List.map_toArray, List.map_cons, List.map_nil, hs, hx, hrun]
    exact hK _ _ (h v' w' h2 h3 h5)
end

end Go.Proofs.Ytaklbbkjhbkieaa

namespace Go.Proofs.Ytaklbbkjhbkieaa
open Go.RowKit
set_option linter.unusedVariables false

/-- The cells of an api.Value. -/
structure V6 where
  kd : Int
  fr : Nat
  to : Nat
  tx : List UInt8
  A : Option Addr
  n : Nat
  c : Nat
  B : Option Addr
  m : Nat
  d : Nat
def v6Cells (x : V6) : List Value := [.int .i64 x.kd, .int .i64 x.fr, .int .i64 x.to, .string ⟨x.tx.toArray⟩, .slice x.A x.n x.c, .slice x.B x.m x.d]
def valK : RowK V6 where
  T := 27
  S := 24
  n := 6
  bytes := 88
  zero := .agg #[.int .i64 0, .int .i64 0, .int .i64 0, .string ⟨#[]⟩, .slice none 0 0, .slice none 0 0]
  enc := v6Cells
  pos := by decide
  len := fun _ => rfl
  one := fun x u h => by
    simp [v6Cells] at h
    rcases h with rfl | rfl | rfl | rfl | rfl | rfl <;> rfl
  under := Try.underlying24
  info := by kernel_rfl
  zlen := rfl
  small := by decide
def namK : RowK (List UInt8) where
  T := 9
  S := 25
  n := 1
  bytes := 16
  zero := .string ⟨#[]⟩
  enc := fun s => [.string ⟨s.toArray⟩]
  pos := by decide
  len := fun _ => rfl
  one := fun s u h => by simp at h; subst h; rfl
  under := Try.underlying25
  info := by kernel_rfl
  zlen := rfl
  small := by decide

theorem RdG.below {α : Type} {K : RowK α} {w w' : World} {A : Option Addr} {m : Nat} {l : List α} (h : RdG K w A m l) (hb : Below w.heap.size w w') : RdG K w' A m l :=
  ⟨h.1, fun hm => by
    obtain ⟨b, o, e, hlt, hc⟩ := h.2 hm
    exact ⟨b, o, e, by have := hb.size; omega, fun j u hu => (hb.cell (p := ⟨b, o + j, none⟩) hlt).trans (hc j u hu)⟩⟩

mutual
/-- What lies in memory stands for this value. -/
def VIs (w : World) : Tree → V6 → Prop
  | .mk kd fr to tx items names, x => x.kd = kd ∧ x.fr = fr ∧ x.to = to ∧ x.tx = tx ∧ x.n ≤ x.c ∧ x.m ≤ x.d ∧ RdG namK w x.B x.m names ∧ ∃ xs, RdG valK w x.A x.n xs ∧ VLs w items xs
def VLs (w : World) : List Tree → List V6 → Prop
  | [], xs => xs = []
  | t :: ts, xs => ∃ x r, xs = x :: r ∧ VIs w t x ∧ VLs w ts r
end

section
variable {w w' : World}
mutual
theorem VIs.stay (hb : Below w.heap.size w w') : ∀ (t : Tree) (x : V6), VIs w t x → VIs w' t x
  | .mk kd fr to tx items names, x, h => by
    unfold VIs at h ⊢
    obtain ⟨h1, h2, h3, h4, h5, h6, h7, xs, h8, h9⟩ := h
    exact ⟨h1, h2, h3, h4, h5, h6, h7.below hb, xs, h8.below hb, VLs.stay hb items xs h9⟩
theorem VLs.stay (hb : Below w.heap.size w w') : ∀ (ts : List Tree) (xs : List V6), VLs w ts xs → VLs w' ts xs
  | [], xs, h => by unfold VLs at h ⊢; exact h
  | t :: ts, xs, h => by
    unfold VLs at h ⊢
    obtain ⟨x, r, rfl, h1, h2⟩ := h
    exact ⟨x, r, rfl, VIs.stay hb t x h1, VLs.stay hb ts r h2⟩
end
theorem VLs.len : ∀ {ts : List Tree} {xs : List V6}, VLs w ts xs → xs.length = ts.length
  | [], xs, h => by unfold VLs at h; subst h; rfl
  | t :: ts, xs, h => by
    unfold VLs at h
    obtain ⟨x, r, rfl, _, h2⟩ := h
    simp [VLs.len h2]
theorem VLs.at : ∀ {ts : List Tree} {xs : List V6} (i : Nat) (t : Tree), VLs w ts xs → ts[i]? = some t → ∃ x, xs[i]? = some x ∧ VIs w t x
  | [], xs, i, t, h, e => by cases e
  | u :: ts, xs, 0, t, h, e => by
    unfold VLs at h
    obtain ⟨x, r, rfl, h1, _⟩ := h
    obtain rfl : u = t := by simpa using e
    exact ⟨x, rfl, h1⟩
  | u :: ts, xs, i + 1, t, h, e => by
    unfold VLs at h
    obtain ⟨x, r, rfl, _, h2⟩ := h
    obtain ⟨y, hy, hv⟩ := VLs.at i t h2 (by simpa using e)
    exact ⟨y, by simpa using hy, hv⟩
/-- How many items a value has. -/
theorem VIs.many {kd : Int} {fr to : Nat} {tx : List UInt8} {items : List Tree} {names : List (List UInt8)} {x : V6} (h : VIs w (.mk kd fr to tx items names) x) : x.n = items.length ∧ x.m = names.length := by
  unfold VIs at h
  obtain ⟨_, _, _, _, _, _, h7, xs, h8, h9⟩ := h
  exact ⟨by rw [← h8.1, h9.len], h7.1.symm⟩
end

end Go.Proofs.Ytaklbbkjhbkieaa

namespace Go.Proofs.Ytaklbbkjhbkieaa
set_option linter.unusedVariables false

/-- What an escape of one letter stands for; 0: none. -/
def letR (c : UInt8) : UInt8 := if c = 34 then 34 else if c = 92 then 92 else if c = 47 then 47 else if c = 98 then 8 else if c = 102 then 12 else if c = 110 then 10 else if c = 114 then 13 else if c = 116 then 9 else 0
def hexGo : Nat → List UInt8 → Int → Nat × Int
  | 0, _, v => (0, v)
  | _ + 1, [], v => (0, v)
  | f + 1, c :: t, v => if isHexI c.toNat then ((hexGo f t (v * 16 + hexI c.toNat)).1 + 1, (hexGo f t (v * 16 + hexI c.toNat)).2) else (0, v)
/-- How many digits of 16, at most four, and their number. -/
def hexR (l : List UInt8) : Nat × Int := hexGo 4 l 0
def unitD (sec : Bool) (n : Nat) (v d1 d2 : Int) (len : Nat) : Nat × Int × Int := match sec with
  | true => if 1 ≤ n ∧ d1 ≠ 13 then (2, 0, 4) else if 2 ≤ n ∧ d2 < 12 then (3, 0, 4) else if n < 4 ∧ n < len ∧ n < 2 then (2 + n, 0, 4) else if n < 4 ∧ n < len then (2 + n, 0, 3) else (2 + n, v, 0)
  | false => if 2 ≤ n ∧ d1 = 13 ∧ 12 ≤ d2 then (3, 0, 4) else if n < 4 ∧ n < len then (2 + n, 0, 3) else (2 + n, v, 0)
/-- An escape of a number: how many bytes fit, its number, the fault. -/
def unitR (l : List UInt8) (sec : Bool) : Nat × Int × Int := match l with
  | [] => (0, 0, 0)
  | c0 :: l1 => if c0 ≠ 92 then (0, 0, if sec then 4 else 3) else match l1 with
    | [] => (1, 0, 0)
    | c1 :: r => if c1 ≠ 117 then (1, 0, if sec then 4 else 3) else
      unitD sec (hexR r).1 (hexR r).2 (if 1 ≤ (hexR r).1 then hexI (r.getD 0 0).toNat else -1) (if 2 ≤ (hexR r).1 then hexI (r.getD 1 0).toNat else -1) r.length
/-- A sign's bytes: how many, the fault, whether it is whole. -/
def sigR : Int → Int → List UInt8 → Nat → Nat × Int × Bool
  | _, _, [], k => (k, 0, false)
  | sg, lf, c :: t, k => if okU sg lf c.toNat then (if lfU lf c.toNat = 0 then (k + 1, 0, true) else sigR (sgU sg lf c.toNat) (lfU lf c.toNat) t (k + 1)) else (k, 2, false)
/-- A text's first sign, or escape: its bytes, how many, the fault, whether it is whole. -/
def pieceX (l : List UInt8) : List UInt8 × Nat × Int × Bool :=
  if (l.getD 0 0).toNat < 32 then ([], 0, 7, false)
  else if l.getD 0 0 ≠ 92 then ((if (sigR 0 0 l 0).2.2 then l.take (sigR 0 0 l 0).1 else []), sigR 0 0 l 0)
  else if l.length = 1 then ([], 1, 0, false)
  else if l.getD 1 0 ≠ 117 then (if letR (l.getD 1 0) = 0 then ([], 1, 3, false) else ([letR (l.getD 1 0)], 2, 0, true))
  else if (unitR l false).2.2 ≠ 0 ∨ (unitR l false).1 < 6 then ([], (unitR l false).1, (unitR l false).2.2, false)
  else if (unitR l false).2.1 < 55296 ∨ 56319 < (unitR l false).2.1 then (ofB (fixI (unitR l false).2.1), 6, 0, true)
  else if (unitR (l.drop 6) true).2.2 ≠ 0 ∨ (unitR (l.drop 6) true).1 < 6 then ([], 6 + (unitR (l.drop 6) true).1, (unitR (l.drop 6) true).2.2, false)
  else (ofB (fixI (65536 + ((unitR l false).2.1 - 55296) * 1024 + (unitR (l.drop 6) true).2.1 - 56320)), 12, 0, true)
def scanR : Nat → List UInt8 → List UInt8 × Nat × Int
  | 0, _ => ([], 0, 0)
  | f + 1, l => if l = [] then ([], 0, 0) else if l.getD 0 0 = 34 then ([], 1, 1)
    else if (pieceX l).2.2.1 ≠ 0 ∨ (pieceX l).2.2.2 = false then ([], (pieceX l).2.1, (pieceX l).2.2.1)
    else ((pieceX l).1 ++ (scanR f (l.drop (pieceX l).2.1)).1, (pieceX l).2.1 + (scanR f (l.drop (pieceX l).2.1)).2.1, (scanR f (l.drop (pieceX l).2.1)).2.2)
/-- A string behind its first mark: what it stands for, how many bytes fit, its end's kind. -/
def scanL (l : List UInt8) : List UInt8 × Nat × Int := scanR l.length l

/-- How many blanks a text begins with. -/
def blankN : List UInt8 → Nat
  | [] => 0
  | c :: t => if isBlankI c.toNat then blankN t + 1 else 0
def blankR (l : List UInt8) (at' : Nat) : Nat := at' + blankN (l.drop at')
/-- What was parsed. -/
structure PartR where
  val : Tree
  beg : Bool
  pt : Nat
  fault : Int
def zeroT : Tree := .mk 0 0 0 [] [] []
def brkR (kd : Int) (fr : Nat) (items : List Tree) (names : List (List UInt8)) (kind : Int) (pt : Nat) : PartR := ⟨.mk kd fr 0 [] items names, true, pt, kind⟩
def quotedR (l : List UInt8) (k : Nat) : PartR :=
  if (scanL (l.drop (k + 1))).2.2 = 0 then brkR 3 k [] [] 10 l.length
  else if (scanL (l.drop (k + 1))).2.2 ≠ 1 then brkR 3 k [] [] (scanL (l.drop (k + 1))).2.2 (k + 1 + (scanL (l.drop (k + 1))).2.1)
  else ⟨.mk 3 k (k + 1 + (scanL (l.drop (k + 1))).2.1) (scanL (l.drop (k + 1))).1 [] [], true, k + 1 + (scanL (l.drop (k + 1))).2.1, 0⟩
/-- A number's bytes: how many, how it ends (0: at the text's end), where one is then. -/
def numW : Int → List UInt8 → Nat → Nat × Int × Int
  | a, [], k => (k, 0, a)
  | a, c :: t, k => if nxI a c.toNat ≠ 0 then numW (nxI a c.toNat) t (k + 1) else (k, anI a c.toNat, a)
def numberR (l : List UInt8) (cl : Bool) (k : Nat) : PartR :=
  if (numW 0 (l.drop k) 0).2.1 = 2 then brkR 2 k [] [] 5 (k + (numW 0 (l.drop k) 0).1)
  else if (cl = false ∧ (numW 0 (l.drop k) 0).2.1 = 0) ∨ whI (numW 0 (l.drop k) 0).2.2 = false then brkR 2 k [] [] 10 l.length
  else ⟨.mk 2 k (k + (numW 0 (l.drop k) 0).1) ((l.drop k).take (numW 0 (l.drop k) 0).1) [] [], true, k + (numW 0 (l.drop k) 0).1, 0⟩
/-- A word's bytes: how many are ahead of what ends it, and how (0: at the text's end). -/
def wordW : List UInt8 → List UInt8 → Nat × Int
  | p, [] => (p.length, 0)
  | p, c :: t => if refL (p ++ [c]) = 0 then wordW (p ++ [c]) t else (p.length, refL (p ++ [c]))
def wordR (l : List UInt8) (k : Nat) : PartR :=
  if (wordW [] (l.drop k)).2 = 2 then brkR 0 k [] [] 6 (k + (wordW [] (l.drop k)).1)
  else if (wordW [] (l.drop k)).2 = 0 then brkR 0 k [] [] 10 l.length
  else ⟨.mk (if (l.drop k).take ((wordW [] (l.drop k)).1 + 1) = lN then 0 else 1) k (k + (wordW [] (l.drop k)).1 + 1) ((l.drop k).take ((wordW [] (l.drop k)).1 + 1)) [] [], true, k + (wordW [] (l.drop k)).1 + 1, 0⟩
/-- An array's items from one on. -/
def arrGo (l : List UInt8) (sm : Nat → PartR) (fr : Nat) : Nat → Nat → List Tree → PartR
  | 0, _, items => brkR 4 fr items [] 10 l.length
  | f + 1, k, items =>
    if l.length ≤ k then brkR 4 fr items [] 10 l.length
    else if (sm k).fault ≠ 0 then brkR 4 fr (if (sm k).beg then items ++ [(sm k).val] else items) [] (sm k).fault (sm k).pt
    else if l.length ≤ blankR l (sm k).pt then brkR 4 fr (if (sm k).beg then items ++ [(sm k).val] else items) [] 10 l.length
    else if l.getD (blankR l (sm k).pt) 0 = 93 then ⟨.mk 4 fr (blankR l (sm k).pt + 1) [] (if (sm k).beg then items ++ [(sm k).val] else items) [], true, blankR l (sm k).pt + 1, 0⟩
    else if l.getD (blankR l (sm k).pt) 0 ≠ 44 then brkR 4 fr (if (sm k).beg then items ++ [(sm k).val] else items) [] 8 (blankR l (sm k).pt)
    else arrGo l sm fr f (blankR l (blankR l (sm k).pt + 1)) (if (sm k).beg then items ++ [(sm k).val] else items)
def arrR (l : List UInt8) (sm : Nat → PartR) (k : Nat) : PartR :=
  if blankR l (k + 1) < l.length ∧ l.getD (blankR l (k + 1)) 0 = 93 then ⟨.mk 4 k (blankR l (k + 1) + 1) [] [] [], true, blankR l (k + 1) + 1, 0⟩
  else arrGo l sm k (l.length + 1 - blankR l (k + 1)) (blankR l (k + 1)) []
/-- What there is of a member: its name, and where its value may come; or the fault. -/
def nameR (l : List UInt8) (k : Nat) : Option (List UInt8 × Nat) × Int × Nat :=
  if l.length ≤ k then (none, 10, l.length)
  else if l.getD k 0 ≠ 34 then (none, 8, k)
  else if (quotedR l k).fault ≠ 0 then (none, (quotedR l k).fault, (quotedR l k).pt)
  else if l.length ≤ blankR l (quotedR l k).pt then (none, 10, l.length)
  else if l.getD (blankR l (quotedR l k).pt) 0 ≠ 58 then (none, 8, blankR l (quotedR l k).pt)
  else if l.length ≤ blankR l (blankR l (quotedR l k).pt + 1) then (none, 10, l.length)
  else (some ((quotedR l k).val.tx, blankR l (blankR l (quotedR l k).pt + 1)), 0, 0)
/-- An object's members from one on. -/
def objGo (l : List UInt8) (sm : Nat → PartR) (fr : Nat) : Nat → Nat → List Tree → List (List UInt8) → PartR
  | 0, _, items, names => brkR 5 fr items names 10 l.length
  | f + 1, k, items, names => match nameR l k with
    | (none, fault, pt) => brkR 5 fr items names fault pt
    | (some (nm, v), _, _) =>
      if (sm v).fault ≠ 0 then brkR 5 fr (if (sm v).beg then items ++ [(sm v).val] else items) (if (sm v).beg then names ++ [nm] else names) (sm v).fault (sm v).pt
      else if l.length ≤ blankR l (sm v).pt then brkR 5 fr (if (sm v).beg then items ++ [(sm v).val] else items) (if (sm v).beg then names ++ [nm] else names) 10 l.length
      else if l.getD (blankR l (sm v).pt) 0 = 125 then ⟨.mk 5 fr (blankR l (sm v).pt + 1) [] (if (sm v).beg then items ++ [(sm v).val] else items) (if (sm v).beg then names ++ [nm] else names), true, blankR l (sm v).pt + 1, 0⟩
      else if l.getD (blankR l (sm v).pt) 0 ≠ 44 then brkR 5 fr (if (sm v).beg then items ++ [(sm v).val] else items) (if (sm v).beg then names ++ [nm] else names) 8 (blankR l (sm v).pt)
      else objGo l sm fr f (blankR l (blankR l (sm v).pt + 1)) (if (sm v).beg then items ++ [(sm v).val] else items) (if (sm v).beg then names ++ [nm] else names)
def objR (l : List UInt8) (sm : Nat → PartR) (k : Nat) : PartR :=
  if blankR l (k + 1) < l.length ∧ l.getD (blankR l (k + 1)) 0 = 125 then ⟨.mk 5 k (blankR l (k + 1) + 1) [] [] [], true, blankR l (k + 1) + 1, 0⟩
  else objGo l sm k (l.length + 1 - blankR l (k + 1)) (blankR l (k + 1)) [] []
/-- The value that begins at a place, with so many levels left. -/
def someR (l : List UInt8) (cl : Bool) : Nat → Nat → PartR
  | 0, k => if kindI (l.getD k 0).toNat = 8 then quotedR l k else if kindI (l.getD k 0).toNat = 9 then numberR l cl k else if kindI (l.getD k 0).toNat = 10 then wordR l k
      else ⟨zeroT, false, k, if kindI (l.getD k 0).toNat = 2 ∨ kindI (l.getD k 0).toNat = 4 then 12 else 8⟩
  | n + 1, k => if kindI (l.getD k 0).toNat = 8 then quotedR l k else if kindI (l.getD k 0).toNat = 9 then numberR l cl k else if kindI (l.getD k 0).toNat = 10 then wordR l k
      else if kindI (l.getD k 0).toNat = 2 then arrR l (someR l cl n) k else if kindI (l.getD k 0).toNat = 4 then objR l (someR l cl n) k else ⟨zeroT, false, k, 8⟩
/-- The value so far, whether one has begun, the verdict and its place. -/
def SomeR (l : List UInt8) (d : Int) (cl : Bool) : Tree × Bool × Int × Nat :=
  if l.length ≤ blankR l 0 then (zeroT, false, if cl then 11 else 0, l.length)
  else if (someR l cl (newN d).most (blankR l 0)).fault = 10 ∧ cl = false then ((someR l cl (newN d).most (blankR l 0)).val, (someR l cl (newN d).most (blankR l 0)).beg, 0, l.length)
  else if (someR l cl (newN d).most (blankR l 0)).fault ≠ 0 then ((someR l cl (newN d).most (blankR l 0)).val, (someR l cl (newN d).most (blankR l 0)).beg, (someR l cl (newN d).most (blankR l 0)).fault, (someR l cl (newN d).most (blankR l 0)).pt)
  else if blankR l (someR l cl (newN d).most (blankR l 0)).pt < l.length then ((someR l cl (newN d).most (blankR l 0)).val, true, 9, blankR l (someR l cl (newN d).most (blankR l 0)).pt)
  else ((someR l cl (newN d).most (blankR l 0)).val, true, if cl then 1 else 0, l.length)
def ParseR (l : List UInt8) (d : Int) : Tree × Int × Nat := if (SomeR l d true).2.2.1 = 1 then ((SomeR l d true).1, (SomeR l d true).2.2) else (zeroT, (SomeR l d true).2.2)

end Go.Proofs.Ytaklbbkjhbkieaa
