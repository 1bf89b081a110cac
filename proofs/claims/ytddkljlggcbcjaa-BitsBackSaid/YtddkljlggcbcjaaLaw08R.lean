/- The walk of BitsRuns, over what package bits is proved to do. -/
import Derived.Test.YtddkljlggcbcjaaBbf
namespace Go.Proofs.Ytddkljlggcbcjaa
open Go.RowKit

section
variable {St : World → Nat → (Nat → Prop) → List Bool → Prop}

theorem rds_on {w w' : World} {F F' : Nat → Prop} {A : Option Addr} {n : Nat} {xs : List Value} (h : RdS w (fun j => ¬ F j) A n xs) (u : Touch F w w') (f : ∀ k, k < w.heap.size → F' k → F k) : RdS w' (fun j => ¬ F' j) A n xs :=
  ((h.mono (G := fun j => ¬ F j ∧ ¬ F' j) (fun k hk hn => ⟨hn, fun e => hn (f k hk e)⟩)).stay u (fun _ _ hk => hk.1)).mono (fun _ _ hk => hk.2)
theorem rds_cell {w : World} {G : Nat → Prop} {ad : Addr} {n : Nat} {L : List Bool} (h : RdS w G (some ad) n (bools L)) (p : Nat) (y : Bool) (hp : L[p]? = some y) (hn : 0 < n) : w.cell? (ad.add p) = some (.bool y) := by
  obtain ⟨ad', e, _, hc⟩ := h.2 hn
  obtain rfl := Option.some.inj e
  exact hc p _ (by unfold bools; rw [List.getElem?_map, hp]; rfl)

theorem bbf_rds {w : World} {base : Nat} {v : Value} {l : List Bool} {F : Nat → Prop} (h : Bbf w base v l) (hF : ∀ k, F k → k < base) (n : Nat) (hn : l.length = n) :
    ∃ g c : Nat, v = .slice (some ⟨g, 0, none⟩) n c ∧ n ≤ c ∧ RdS w (fun j => ¬ F j) (some ⟨g, 0, none⟩) n (bools l) := by
  subst hn
  obtain ⟨g, c, rfl, hb, hlt⟩ := h.form
  have hr := h.rd rfl
  obtain ⟨g', c', e, ho⟩ := h
  injection e with e1 _ e3
  obtain ⟨_, _, e', _, _, hc1, hc2⟩ := own_form ho (by intro e; cases e)
  injection e' with _ _ e4
  refine ⟨g, c, rfl, by omega, hr.1, fun hn => ?_⟩
  obtain ⟨ad, e, _, hc⟩ := hr.2 hn
  obtain rfl := Option.some.inj e
  exact ⟨_, rfl, fun hf => by have := hF g hf; omega, hc⟩

theorem rds_init {w : World} {G : Nat → Prop} {A : Option Addr} {L : List Bool} {y : Bool} {n : Nat} (hn : L.length = n) (h : RdS w G A (n + 1) (bools (L ++ [y]))) : RdS w G A n (bools L) := by
  subst hn
  refine ⟨bools_length L, fun _ => ?_⟩
  obtain ⟨ad, e, hg, hc⟩ := h.2 (by omega)
  exact ⟨ad, e, hg, fun j u hu => hc j u (by rw [bools_append]; rw [List.getElem?_append_left (by have := (List.getElem?_eq_some_iff.1 hu).1; exact this)]; exact hu)⟩
theorem add_succ' (ad : Addr) (m : Nat) : ad.add (m + 1) = ⟨ad.block, ad.off + (m + 1), none⟩ := by unfold Addr.add; simp
theorem add_zero' (ad : Addr) : ad.add 0 = ad := by unfold Addr.add; simp

/-- Where BitsRuns' loop is. -/
def RelBr (St : World → Nat → (Nat → Prop) → List Bool → Prop) (len b B : Nat) (W wr : World) (lv i : Value) : Prop :=
  ∃ (k : Nat) (F : Nat → Prop) (L : List Bool) (A : Option Addr) (c : Nat), k ≤ len ∧ i = .int .i64 k ∧ lv = .slice A L.length c ∧ L.length ≤ c ∧ L.length ≤ k ∧ St wr b F L ∧ RdS wr (fun j => ¬ F j) A L.length (bools L) ∧ (∀ j, F j → B ≤ j) ∧ Below B W wr ∧ B ≤ wr.heap.size

theorem last_is (L : List Bool) (h : 0 < L.length) : ∃ L0 y, L = L0 ++ [y] := by
  rcases List.eq_nil_or_concat L with rfl | ⟨L0, y, rfl⟩
  · simp at h
  · exact ⟨L0, y, List.concat_eq_append⟩

set_option maxRecDepth 100000 in
set_option maxHeartbeats 4000000 in
theorem bitsRuns_core (C : StackC St) (A : Option Addr) (len cap : Nat) (al : List UInt8) (W : World) (hx : Rd W W.heap.size A len (byteCells al)) :
    Calls Try.prog 3 #[.slice A len cap] W fun e w' => e = .returned (.bool true) ∧ Below W.heap.size W w' := by
  have KV := Lib.hid (fun w => alive8_any C w)
  by_cases h2 : 500 < (len : Int)
  · go_enter Try.func3, Try.ntmps3
    go_wp2_with (first
      | (go_at_call 5; refine (KV.out _).mono ?_; rintro e w1 ⟨rfl, hb1⟩))
    go_ret
    exact ⟨rfl, hb1⟩
  have h2' : (len : Int) ≤ 500 := by omega
  have hal : al.length = len := by have := hx.1; rwa [byteCells_length] at this
  have HAL := Lib.hid hal
  clear hal
  go_enter Try.func3, Try.ntmps3
  go_wp2_with (first
    | (go_at_call 5; refine (KV.out _).mono ?_; rintro e w1 ⟨rfl, hb1⟩))
  have z1 := hb1.size
  go_loopw [4, 19] (fun lv i wr => RelBr St len w1.heap.size W.heap.size W wr lv i) (fun _ i _ => len - (intOf i).toNat)
  case atStart => exact ⟨0, (fun k => k = w1.heap.size), [], _, 0, Nat.zero_le _, rfl, rfl, Nat.le_refl _, Nat.le_refl _, C.move _ _ _ _ (fun _ => False) _ (C.zero w1) (Touch.of_new (below1f _ _)) (fun _ _ h => h), ⟨rfl, fun h => absurd h (by simp)⟩, (fun k h => by omega), (hb1.alloc z1 _).alloc (by first | (simp; done) | (simp; omega)) _, by simp; omega⟩
  case round =>
    obtain ⟨k, F, L, A, c, hk, rfl, rfl, hLc, hLk, hst, hrd, hF, hbel, hsz⟩ := hrel
    by_cases hlt : k < len
    · have hkl : k < al.length := by rw [HAL.out]; exact hlt
      obtain ⟨ad0, rfl, had0, hc0⟩ := (hx.stay hbel).2 (by omega)
      have hcell := hc0 k (.int .u8 al[k].toNat) (by unfold byteCells; rw [List.getElem?_map, List.getElem?_eq_getElem hkl]; rfl)
      have hkI : (k : Int) < len := by omega
      have hr : (al[k].toNat : Int) % 3 = 0 ∨ (al[k].toNat : Int) % 3 = 1 ∨ (al[k].toNat : Int) % 3 = 2 := by omega
      have hn0 : (0 : Int) ≤ al[k].toNat ∧ (al[k].toNat : Int) ≤ 255 := by have := UInt8.toNat_lt al[k]; omega
      clear hc0
      generalize (al[k].toNat : Int) = n at *
      obtain ⟨hn1, hn2⟩ := hn0
      have hL9 : L.length ≤ 5000 := by omega
      rcases hr with hr | hr | hr
      · have t1 : True := trivial
        have t2 : True := trivial
        have KP := Lib.hid (C.push w1.heap.size F L false wr hst hL9)
        have KT := fun (F : Nat → Prop) (w : World) (h : St w w1.heap.size F (L ++ [false])) => C.top w1.heap.size F (L ++ [false]) w h (by first | (simp; done) | (simp; omega))
        rw [show ((L ++ [false])).getLast? = some false from List.getLast?_concat, show decide (0 < ((L ++ [false])).length) = true from decide_eq_true (by simp)] at KT
        have gy : (false != false) = false := by simp
        have KL := fun (F : Nat → Prop) (w : World) (h : St w w1.heap.size F (L ++ [false])) => C.len w1.heap.size F (L ++ [false]) w h (by first | (simp; done) | (simp; omega))
        have KW := fun (F : Nat → Prop) (w : World) (h : St w w1.heap.size F (L ++ [false])) => C.words w1.heap.size F (L ++ [false]) w h (by first | (simp; done) | (simp; omega))
        have KA := fun (F : Nat → Prop) (w : World) (h : St w w1.heap.size F (L ++ [false])) => C.all w1.heap.size F (L ++ [false]) w h (by first | (simp; done) | (simp; omega))
        have RW := rwords_at (L.length + 1) (hn := by omega)
        have RS := fun (A1 A2 : Option Addr) (c1 c2 : Nat) (w : World) h1 h2 => rsame_at A1 A2 (L.length + 1) c1 c2 (L ++ [false]) w h1 h2 (by omega)
        rw [show ((L ++ [false])).length = (L.length + 1) by simp] at KL KW KA
        replace KT := Lib.hid KT
        replace KL := Lib.hid KL
        replace KW := Lib.hid KW
        replace KA := Lib.hid KA
        replace RW := Lib.hid RW
        replace RS := Lib.hid RS
        go_wp2_with (first
          | (go_at_call 6; refine KP.out.mono ?_; rintro e w2 ⟨rfl, F2, s2, u2, f2⟩
             have r2 := rds_on hrd u2 f2
             have k3 := Bbf.made (base := w2.heap.size) w2 #[] [] rfl (by simp) (Nat.le_refl _)
             have v3 := below1f w2 (.cells #[] 4)
             have r3 := (r2.live.stay v3).more v3.size)
          | (at_builtin
             clear t1
             go_must (
               refine bbf_append _ rfl (.tmp 30) (.tmp 31) rfl w2.heap.size _ [] rfl k3 _ A L.length c L rfl r3 (by first | (simp; done) | (simp; omega)) v3.size ?_
               intro v4 w4 k4 b4
               have v5 := below1f w4 (.cells #[.bool false] 4)
               have k5 := k4.stay v5 (Nat.le_refl _)
               have r5' := Rd.of_list (l := bools [false]) (k := 1) (Own.fresh w4 4 _) rfl
               have z5 := Nat.le_trans (Nat.le_trans v3.size b4.size) v5.size))
          | (at_builtin
             clear t2
             go_must (
               refine bbf_append _ rfl (.tmp 32) (.tmp 36) rfl w2.heap.size _ ([] ++ L) rfl k5 _ _ 1 _ [false] rfl r5' (by first | (simp; done) | (simp; omega)) z5 ?_
               intro v6' w5 k6 b6'
               have bT := ((v3.trans b4).trans (v5.mono (Nat.le_trans v3.size b4.size))).trans b6'
               have s5 := C.move _ _ _ _ _ _ s2 (Touch.of_new (F := fun _ => False) bT) (fun _ _ h => h)
               obtain ⟨g6, c6, rfl, hc6, r5⟩ := bbf_rds (l := L ++ [false]) k6 (C.inside _ _ _ _ s2) (L.length + 1) (by simp)
               have hb2 := u2.below (fun j _ h => hF j h) hsz
               have hsz2 := Nat.le_trans hsz hb2.size
               have hbel5 := (hbel.trans hb2).trans (bT.mono hsz2)
               have hsz5 := Nat.le_trans hsz2 bT.size
               have a5 := foot_up hF f2 hsz))
          | (go_at_call 8; refine (KT.out _ _ s5).mono ?_; rintro e w6 ⟨rfl, F6, s6, u6, f6⟩; have r6 := rds_on r5 u6 f6; have d6 := rds_cell r6 L.length false (by simp) (by omega); rw [add_none, Nat.zero_add] at d6)
          | (go_at_call 9; refine (KL.out _ _ s6).mono ?_; rintro e w7 ⟨rfl, F7, s7, u7, f7⟩; have r7 := rds_on r6 u7 f7)
          | (go_at_call 10; refine (KW.out _ _ s7).mono ?_; rintro e w8 ⟨rfl, F8, s8, u8, f8⟩; have r8 := rds_on r7 u8 f8)
          | (go_at_call 11; refine (RW.out _).mono ?_; rintro e w' ⟨rfl, rfl⟩)
          | (go_at_call 13; refine (KA.out _ _ s8).mono ?_; rintro e w9 ⟨A9, c9, rfl, q9, F9, s9, u9, f9⟩; have r9 := rds_on r8 u9 f9)
          | (go_at_call 12; refine (RS.out _ _ _ _ w9 q9 r9.live).mono ?_; rintro e w' ⟨rfl, q, rfl⟩))
        have b6 := u6.below (fun j _ h => a5 j h) hsz5
        have a6 := foot_up a5 f6 hsz5
        have n6 := Nat.le_trans hsz5 b6.size
        have b7 := u7.below (fun j _ h => a6 j h) n6
        have a7 := foot_up a6 f7 n6
        have n7 := Nat.le_trans n6 b7.size
        have b8 := u8.below (fun j _ h => a7 j h) n7
        have a8 := foot_up a7 f8 n7
        have n8 := Nat.le_trans n7 b8.size
        have b9 := u9.below (fun j _ h => a8 j h) n8
        have a9 := foot_up a8 f9 n8
        have n9 := Nat.le_trans n8 b9.size
        have bF := (((hbel5.trans b6).trans b7).trans b8).trans b9
        have s9q := C.move _ _ _ _ _ _ s9 ((Touch.refl (fun _ => False) w9).drewN q) (fun _ _ h => h)
        have r9q := (r9.stay ((Touch.refl (fun _ => False) w9).drewN q) (fun _ _ _ h => h))
        have bFq := below_drewN bF q
        go_roundw
        case rel => exact ⟨k + 1, F9, L ++ [false], some ⟨g6, 0, none⟩, c6, by omega, by go_num, (by simp), (by first | (simp; done) | (simp; omega)), (by first | (simp; done) | (simp; omega)), s9q, (by simpa using r9q), a9, bFq, n9⟩
        case measure => simp [intOf]; omega
      · have t1 : True := trivial
        have t2 : True := trivial
        have KP := Lib.hid (C.push w1.heap.size F L true wr hst hL9)
        have KT := fun (F : Nat → Prop) (w : World) (h : St w w1.heap.size F (L ++ [true])) => C.top w1.heap.size F (L ++ [true]) w h (by first | (simp; done) | (simp; omega))
        rw [show ((L ++ [true])).getLast? = some true from List.getLast?_concat, show decide (0 < ((L ++ [true])).length) = true from decide_eq_true (by simp)] at KT
        have gy : (true != true) = false := by simp
        have KL := fun (F : Nat → Prop) (w : World) (h : St w w1.heap.size F (L ++ [true])) => C.len w1.heap.size F (L ++ [true]) w h (by first | (simp; done) | (simp; omega))
        have KW := fun (F : Nat → Prop) (w : World) (h : St w w1.heap.size F (L ++ [true])) => C.words w1.heap.size F (L ++ [true]) w h (by first | (simp; done) | (simp; omega))
        have KA := fun (F : Nat → Prop) (w : World) (h : St w w1.heap.size F (L ++ [true])) => C.all w1.heap.size F (L ++ [true]) w h (by first | (simp; done) | (simp; omega))
        have RW := rwords_at (L.length + 1) (hn := by omega)
        have RS := fun (A1 A2 : Option Addr) (c1 c2 : Nat) (w : World) h1 h2 => rsame_at A1 A2 (L.length + 1) c1 c2 (L ++ [true]) w h1 h2 (by omega)
        rw [show ((L ++ [true])).length = (L.length + 1) by simp] at KL KW KA
        replace KT := Lib.hid KT
        replace KL := Lib.hid KL
        replace KW := Lib.hid KW
        replace KA := Lib.hid KA
        replace RW := Lib.hid RW
        replace RS := Lib.hid RS
        go_wp2_with (first
          | (go_at_call 6; refine KP.out.mono ?_; rintro e w2 ⟨rfl, F2, s2, u2, f2⟩
             have r2 := rds_on hrd u2 f2
             have k3 := Bbf.made (base := w2.heap.size) w2 #[] [] rfl (by simp) (Nat.le_refl _)
             have v3 := below1f w2 (.cells #[] 4)
             have r3 := (r2.live.stay v3).more v3.size)
          | (at_builtin
             clear t1
             go_must (
               refine bbf_append _ rfl (.tmp 30) (.tmp 31) rfl w2.heap.size _ [] rfl k3 _ A L.length c L rfl r3 (by first | (simp; done) | (simp; omega)) v3.size ?_
               intro v4 w4 k4 b4
               have v5 := below1f w4 (.cells #[.bool true] 4)
               have k5 := k4.stay v5 (Nat.le_refl _)
               have r5' := Rd.of_list (l := bools [true]) (k := 1) (Own.fresh w4 4 _) rfl
               have z5 := Nat.le_trans (Nat.le_trans v3.size b4.size) v5.size))
          | (at_builtin
             clear t2
             go_must (
               refine bbf_append _ rfl (.tmp 32) (.tmp 36) rfl w2.heap.size _ ([] ++ L) rfl k5 _ _ 1 _ [true] rfl r5' (by first | (simp; done) | (simp; omega)) z5 ?_
               intro v6' w5 k6 b6'
               have bT := ((v3.trans b4).trans (v5.mono (Nat.le_trans v3.size b4.size))).trans b6'
               have s5 := C.move _ _ _ _ _ _ s2 (Touch.of_new (F := fun _ => False) bT) (fun _ _ h => h)
               obtain ⟨g6, c6, rfl, hc6, r5⟩ := bbf_rds (l := L ++ [true]) k6 (C.inside _ _ _ _ s2) (L.length + 1) (by simp)
               have hb2 := u2.below (fun j _ h => hF j h) hsz
               have hsz2 := Nat.le_trans hsz hb2.size
               have hbel5 := (hbel.trans hb2).trans (bT.mono hsz2)
               have hsz5 := Nat.le_trans hsz2 bT.size
               have a5 := foot_up hF f2 hsz))
          | (go_at_call 8; refine (KT.out _ _ s5).mono ?_; rintro e w6 ⟨rfl, F6, s6, u6, f6⟩; have r6 := rds_on r5 u6 f6; have d6 := rds_cell r6 L.length true (by simp) (by omega); rw [add_none, Nat.zero_add] at d6)
          | (go_at_call 9; refine (KL.out _ _ s6).mono ?_; rintro e w7 ⟨rfl, F7, s7, u7, f7⟩; have r7 := rds_on r6 u7 f7)
          | (go_at_call 10; refine (KW.out _ _ s7).mono ?_; rintro e w8 ⟨rfl, F8, s8, u8, f8⟩; have r8 := rds_on r7 u8 f8)
          | (go_at_call 11; refine (RW.out _).mono ?_; rintro e w' ⟨rfl, rfl⟩)
          | (go_at_call 13; refine (KA.out _ _ s8).mono ?_; rintro e w9 ⟨A9, c9, rfl, q9, F9, s9, u9, f9⟩; have r9 := rds_on r8 u9 f9)
          | (go_at_call 12; refine (RS.out _ _ _ _ w9 q9 r9.live).mono ?_; rintro e w' ⟨rfl, q, rfl⟩))
        have b6 := u6.below (fun j _ h => a5 j h) hsz5
        have a6 := foot_up a5 f6 hsz5
        have n6 := Nat.le_trans hsz5 b6.size
        have b7 := u7.below (fun j _ h => a6 j h) n6
        have a7 := foot_up a6 f7 n6
        have n7 := Nat.le_trans n6 b7.size
        have b8 := u8.below (fun j _ h => a7 j h) n7
        have a8 := foot_up a7 f8 n7
        have n8 := Nat.le_trans n7 b8.size
        have b9 := u9.below (fun j _ h => a8 j h) n8
        have a9 := foot_up a8 f9 n8
        have n9 := Nat.le_trans n8 b9.size
        have bF := (((hbel5.trans b6).trans b7).trans b8).trans b9
        have s9q := C.move _ _ _ _ _ _ s9 ((Touch.refl (fun _ => False) w9).drewN q) (fun _ _ h => h)
        have r9q := (r9.stay ((Touch.refl (fun _ => False) w9).drewN q) (fun _ _ _ h => h))
        have bFq := below_drewN bF q
        go_roundw
        case rel => exact ⟨k + 1, F9, L ++ [true], some ⟨g6, 0, none⟩, c6, by omega, by go_num, (by simp), (by first | (simp; done) | (simp; omega)), (by first | (simp; done) | (simp; omega)), s9q, (by simpa using r9q), a9, bFq, n9⟩
        case measure => simp [intOf]; omega
      · rcases List.eq_nil_or_concat L with rfl | ⟨L0, y, rfl⟩
        · have KP := Lib.hid (C.pop w1.heap.size F [] wr hst hL9)
          have KT := fun (F : Nat → Prop) (w : World) (h : St w w1.heap.size F []) => C.top w1.heap.size F [] w h (by simp)
          have KL := fun (F : Nat → Prop) (w : World) (h : St w w1.heap.size F []) => C.len w1.heap.size F [] w h (by first | (simp; done) | (simp; omega))
          have KW := fun (F : Nat → Prop) (w : World) (h : St w w1.heap.size F []) => C.words w1.heap.size F [] w h (by first | (simp; done) | (simp; omega))
          have KA := fun (F : Nat → Prop) (w : World) (h : St w w1.heap.size F []) => C.all w1.heap.size F [] w h (by first | (simp; done) | (simp; omega))
          have RW := rwords_at 0 (hn := by omega)
          have RS := fun (A1 A2 : Option Addr) (c1 c2 : Nat) (w : World) h1 h2 => rsame_at A1 A2 0 c1 c2 [] w h1 h2 (by omega)
          rw [show ([]).length = 0 by simp] at KL KW KA
          replace KT := Lib.hid KT
          replace KL := Lib.hid KL
          replace KW := Lib.hid KW
          replace KA := Lib.hid KA
          replace RW := Lib.hid RW
          replace RS := Lib.hid RS
          clear hst hLk hL9
          go_wp2_with (first
            | (go_at_call 7; refine KP.out.mono ?_; rintro e w5 ⟨rfl, F2, s5, u2, f2⟩
               have r5 := rds_on hrd u2 f2
               have hb2 := u2.below (fun j _ h => hF j h) hsz
               have hsz5 := Nat.le_trans hsz hb2.size
               have hbel5 := hbel.trans hb2
               have a5 := foot_up hF f2 hsz)
            | (go_at_call 8; refine (KT.out _ _ s5).mono ?_; rintro e w6 ⟨rfl, F6, s6, u6, f6⟩; have r6 := rds_on r5 u6 f6)
            | (go_at_call 9; refine (KL.out _ _ s6).mono ?_; rintro e w7 ⟨rfl, F7, s7, u7, f7⟩; have r7 := rds_on r6 u7 f7)
            | (go_at_call 10; refine (KW.out _ _ s7).mono ?_; rintro e w8 ⟨rfl, F8, s8, u8, f8⟩; have r8 := rds_on r7 u8 f8)
            | (go_at_call 11; refine (RW.out _).mono ?_; rintro e w' ⟨rfl, rfl⟩)
            | (go_at_call 13; refine (KA.out _ _ s8).mono ?_; rintro e w9 ⟨A9, c9, rfl, q9, F9, s9, u9, f9⟩; have r9 := rds_on r8 u9 f9)
            | (go_at_call 12; refine (RS.out _ _ _ _ w9 q9 r9.live).mono ?_; rintro e w' ⟨rfl, q, rfl⟩))
          have b6 := u6.below (fun j _ h => a5 j h) hsz5
          have a6 := foot_up a5 f6 hsz5
          have n6 := Nat.le_trans hsz5 b6.size
          have b7 := u7.below (fun j _ h => a6 j h) n6
          have a7 := foot_up a6 f7 n6
          have n7 := Nat.le_trans n6 b7.size
          have b8 := u8.below (fun j _ h => a7 j h) n7
          have a8 := foot_up a7 f8 n7
          have n8 := Nat.le_trans n7 b8.size
          have b9 := u9.below (fun j _ h => a8 j h) n8
          have a9 := foot_up a8 f9 n8
          have n9 := Nat.le_trans n8 b9.size
          have bF := (((hbel5.trans b6).trans b7).trans b8).trans b9
          have s9q := C.move _ _ _ _ _ _ s9 ((Touch.refl (fun _ => False) w9).drewN q) (fun _ _ h => h)
          have r9q := (r9.stay ((Touch.refl (fun _ => False) w9).drewN q) (fun _ _ _ h => h))
          have bFq := below_drewN bF q
          go_roundw
          case rel => exact ⟨k + 1, F9, [], A, c, by omega, by go_num, (by simp), (by first | (simp; done) | (simp; omega)), (by first | (simp; done) | (simp; omega)), s9q, (by simpa using r9q), a9, bFq, n9⟩
          case measure => simp [intOf]; omega
        · rw [List.concat_eq_append] at *
          rcases List.eq_nil_or_concat L0 with rfl | ⟨L1, z, rfl⟩
          · skip
            have KP := C.pop w1.heap.size F (([] : List Bool) ++ [y]) wr hst hL9
            rw [show (([] : List Bool) ++ [y]).getLast? = some y from List.getLast?_concat, show (([] : List Bool) ++ [y]).dropLast = ([] : List Bool) from List.dropLast_concat, show decide (0 < (([] : List Bool) ++ [y]).length) = true from decide_eq_true (by simp)] at KP
            replace KP := Lib.hid KP
            rw [show (([] : List Bool) ++ [y]).length = 0 + 1 by simp] at hrd
            have hLc' : 0 + 1 ≤ c := by simpa using hLc
            have hLk' : 0 + 1 ≤ k := by simpa using hLk
            obtain ⟨ad, hAd, _, _⟩ := hrd.2 (by omega)
            subst hAd
            have gyp : (y != y) = false := by simp
            have KT := fun (F : Nat → Prop) (w : World) (h : St w w1.heap.size F []) => C.top w1.heap.size F [] w h (by simp)
            have KL := fun (F : Nat → Prop) (w : World) (h : St w w1.heap.size F ([] : List Bool)) => C.len w1.heap.size F ([] : List Bool) w h (by first | (simp; done) | (simp; omega))
            have KW := fun (F : Nat → Prop) (w : World) (h : St w w1.heap.size F ([] : List Bool)) => C.words w1.heap.size F ([] : List Bool) w h (by first | (simp; done) | (simp; omega))
            have KA := fun (F : Nat → Prop) (w : World) (h : St w w1.heap.size F ([] : List Bool)) => C.all w1.heap.size F ([] : List Bool) w h (by first | (simp; done) | (simp; omega))
            have RW := rwords_at 0 (hn := by omega)
            have RS := fun (A1 A2 : Option Addr) (c1 c2 : Nat) (w : World) h1 h2 => rsame_at A1 A2 0 c1 c2 ([] : List Bool) w h1 h2 (by omega)
            rw [show (([] : List Bool)).length = 0 by simp] at KL KW KA
            replace KT := Lib.hid KT
            replace KL := Lib.hid KL
            replace KW := Lib.hid KW
            replace KA := Lib.hid KA
            replace RW := Lib.hid RW
            replace RS := Lib.hid RS
            clear hst hLc hLk hL9
            go_wp2_with (first
              | (go_at_call 7; refine KP.out.mono ?_; rintro e w5 ⟨rfl, F2, s5, u2, f2⟩
                 have r2 := rds_on hrd u2 f2
                 have d5 := rds_cell r2 0 y (by simp) (by omega)
                 have r5 := rds_init (by simp) r2
                 have d5b := d5; rw [add_zero'] at d5b
                 have hb2 := u2.below (fun j _ h => hF j h) hsz
                 have hsz5 := Nat.le_trans hsz hb2.size
                 have hbel5 := hbel.trans hb2
                 have a5 := foot_up hF f2 hsz)
              | (go_at_call 8; refine (KT.out _ _ s5).mono ?_; rintro e w6 ⟨rfl, F6, s6, u6, f6⟩; have r6 := rds_on r5 u6 f6)
              | (go_at_call 9; refine (KL.out _ _ s6).mono ?_; rintro e w7 ⟨rfl, F7, s7, u7, f7⟩; have r7 := rds_on r6 u7 f7)
              | (go_at_call 10; refine (KW.out _ _ s7).mono ?_; rintro e w8 ⟨rfl, F8, s8, u8, f8⟩; have r8 := rds_on r7 u8 f8)
              | (go_at_call 11; refine (RW.out _).mono ?_; rintro e w' ⟨rfl, rfl⟩)
              | (go_at_call 13; refine (KA.out _ _ s8).mono ?_; rintro e w9 ⟨A9, c9, rfl, q9, F9, s9, u9, f9⟩; have r9 := rds_on r8 u9 f9)
              | (go_at_call 12; refine (RS.out _ _ _ _ w9 q9 r9.live).mono ?_; rintro e w' ⟨rfl, q, rfl⟩))
            have b6 := u6.below (fun j _ h => a5 j h) hsz5
            have a6 := foot_up a5 f6 hsz5
            have n6 := Nat.le_trans hsz5 b6.size
            have b7 := u7.below (fun j _ h => a6 j h) n6
            have a7 := foot_up a6 f7 n6
            have n7 := Nat.le_trans n6 b7.size
            have b8 := u8.below (fun j _ h => a7 j h) n7
            have a8 := foot_up a7 f8 n7
            have n8 := Nat.le_trans n7 b8.size
            have b9 := u9.below (fun j _ h => a8 j h) n8
            have a9 := foot_up a8 f9 n8
            have n9 := Nat.le_trans n8 b9.size
            have bF := (((hbel5.trans b6).trans b7).trans b8).trans b9
            have s9q := C.move _ _ _ _ _ _ s9 ((Touch.refl (fun _ => False) w9).drewN q) (fun _ _ h => h)
            have r9q := (r9.stay ((Touch.refl (fun _ => False) w9).drewN q) (fun _ _ _ h => h))
            have bFq := below_drewN bF q
            go_roundw
            case rel => exact ⟨k + 1, F9, ([] : List Bool), some ad, c, by omega, by go_num, (by simp), (by first | (simp; done) | (simp; omega)), (by first | (simp; done) | (simp; omega)), s9q, (by simpa using r9q), a9, bFq, n9⟩
            case measure => simp [intOf]; omega
          · rw [List.concat_eq_append] at *
            have KP := C.pop w1.heap.size F ((L1 ++ [z]) ++ [y]) wr hst hL9
            rw [show ((L1 ++ [z]) ++ [y]).getLast? = some y from List.getLast?_concat, show ((L1 ++ [z]) ++ [y]).dropLast = (L1 ++ [z]) from List.dropLast_concat, show decide (0 < ((L1 ++ [z]) ++ [y]).length) = true from decide_eq_true (by simp)] at KP
            replace KP := Lib.hid KP
            rw [show ((L1 ++ [z]) ++ [y]).length = (L1.length + 1) + 1 by simp] at hrd
            have hLc' : (L1.length + 1) + 1 ≤ c := by simpa using hLc
            have hLk' : (L1.length + 1) + 1 ≤ k := by simpa using hLk
            obtain ⟨ad, hAd, _, _⟩ := hrd.2 (by omega)
            subst hAd
            have gyp : (y != y) = false := by simp
            have KT := fun (F : Nat → Prop) (w : World) (h : St w w1.heap.size F (L1 ++ [z])) => C.top w1.heap.size F (L1 ++ [z]) w h (by first | (simp; done) | (simp; omega))
            rw [show ((L1 ++ [z])).getLast? = some z from List.getLast?_concat, show decide (0 < ((L1 ++ [z])).length) = true from decide_eq_true (by simp)] at KT
            have gy : (z != z) = false := by simp
            have KL := fun (F : Nat → Prop) (w : World) (h : St w w1.heap.size F (L1 ++ [z])) => C.len w1.heap.size F (L1 ++ [z]) w h (by first | (simp; done) | (simp; omega))
            have KW := fun (F : Nat → Prop) (w : World) (h : St w w1.heap.size F (L1 ++ [z])) => C.words w1.heap.size F (L1 ++ [z]) w h (by first | (simp; done) | (simp; omega))
            have KA := fun (F : Nat → Prop) (w : World) (h : St w w1.heap.size F (L1 ++ [z])) => C.all w1.heap.size F (L1 ++ [z]) w h (by first | (simp; done) | (simp; omega))
            have RW := rwords_at (L1.length + 1) (hn := by omega)
            have RS := fun (A1 A2 : Option Addr) (c1 c2 : Nat) (w : World) h1 h2 => rsame_at A1 A2 (L1.length + 1) c1 c2 (L1 ++ [z]) w h1 h2 (by omega)
            rw [show ((L1 ++ [z])).length = (L1.length + 1) by simp] at KL KW KA
            replace KT := Lib.hid KT
            replace KL := Lib.hid KL
            replace KW := Lib.hid KW
            replace KA := Lib.hid KA
            replace RW := Lib.hid RW
            replace RS := Lib.hid RS
            clear hst hLc hLk hL9
            go_wp2_with (first
              | (go_at_call 7; refine KP.out.mono ?_; rintro e w5 ⟨rfl, F2, s5, u2, f2⟩
                 have r2 := rds_on hrd u2 f2
                 have d5 := rds_cell r2 (L1.length + 1) y (by simp) (by omega)
                 have r5 := rds_init (by simp) r2
                 have d5b := d5; rw [add_succ'] at d5b
                 have hb2 := u2.below (fun j _ h => hF j h) hsz
                 have hsz5 := Nat.le_trans hsz hb2.size
                 have hbel5 := hbel.trans hb2
                 have a5 := foot_up hF f2 hsz)
              | (go_at_call 8; refine (KT.out _ _ s5).mono ?_; rintro e w6 ⟨rfl, F6, s6, u6, f6⟩; have r6 := rds_on r5 u6 f6; have d6 := rds_cell r6 L1.length z (by simp) (by omega))
              | (go_at_call 9; refine (KL.out _ _ s6).mono ?_; rintro e w7 ⟨rfl, F7, s7, u7, f7⟩; have r7 := rds_on r6 u7 f7)
              | (go_at_call 10; refine (KW.out _ _ s7).mono ?_; rintro e w8 ⟨rfl, F8, s8, u8, f8⟩; have r8 := rds_on r7 u8 f8)
              | (go_at_call 11; refine (RW.out _).mono ?_; rintro e w' ⟨rfl, rfl⟩)
              | (go_at_call 13; refine (KA.out _ _ s8).mono ?_; rintro e w9 ⟨A9, c9, rfl, q9, F9, s9, u9, f9⟩; have r9 := rds_on r8 u9 f9)
              | (go_at_call 12; refine (RS.out _ _ _ _ w9 q9 r9.live).mono ?_; rintro e w' ⟨rfl, q, rfl⟩))
            have b6 := u6.below (fun j _ h => a5 j h) hsz5
            have a6 := foot_up a5 f6 hsz5
            have n6 := Nat.le_trans hsz5 b6.size
            have b7 := u7.below (fun j _ h => a6 j h) n6
            have a7 := foot_up a6 f7 n6
            have n7 := Nat.le_trans n6 b7.size
            have b8 := u8.below (fun j _ h => a7 j h) n7
            have a8 := foot_up a7 f8 n7
            have n8 := Nat.le_trans n7 b8.size
            have b9 := u9.below (fun j _ h => a8 j h) n8
            have a9 := foot_up a8 f9 n8
            have n9 := Nat.le_trans n8 b9.size
            have bF := (((hbel5.trans b6).trans b7).trans b8).trans b9
            have s9q := C.move _ _ _ _ _ _ s9 ((Touch.refl (fun _ => False) w9).drewN q) (fun _ _ h => h)
            have r9q := (r9.stay ((Touch.refl (fun _ => False) w9).drewN q) (fun _ _ _ h => h))
            have bFq := below_drewN bF q
            go_roundw
            case rel => exact ⟨k + 1, F9, (L1 ++ [z]), some ad, c, by omega, by go_num, (by simp), (by first | (simp; done) | (simp; omega)), (by first | (simp; done) | (simp; omega)), s9q, (by simpa using r9q), a9, bFq, n9⟩
            case measure => simp [intOf]; omega
    · have hkI : ¬ (k : Int) < len := by omega
      go_wp2
      go_ret
      exact ⟨rfl, hbel⟩

end
end Go.Proofs.Ytddkljlggcbcjaa
