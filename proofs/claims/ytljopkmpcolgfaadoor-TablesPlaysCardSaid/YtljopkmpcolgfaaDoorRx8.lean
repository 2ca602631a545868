/-
  One call of a Tables against the document's.
-/
import Derived.Test.YtljopkmpcolgfaaDoorRw8
import Derived.Test.YtljopkmpcolgfaaDoorPv7
import Derived.Test.YtljopkmpcolgfaaDoorVb8
namespace Go.Proofs.YtljopkmpcolgfaaDoor
open Flo Go.RowKit Go.Maps Go.MuLone
/-- what follows a call of the program's half -/
def Ct (F Ft : Nat → Prop) (w A : World) (t bm r : Nat) (ks : List Nat) (made : Nat) : Prop :=
  ∀ w' ks' made', TB Ft w' t bm ks' made' → Fr (tb t bm) A w' → ∃ Fx, (∀ k, w'.heap.size ≤ k → Fx k) ∧ RT Fx w' r ks made ∧ (∀ k, w.heap.size ≤ k → k < w'.heap.size → ¬ Fx k) ∧
    ∀ w2, Fr Fx w' w2 → (RT Fx w2 r ks' made' → PR F w2 t r ks' made') ∧ Fr F w w2
/-- what the box of a call holds -/
def Bx (w A : World) (t bm : Nat) (c d : Value) : Prop := ∀ W, Fr (tb t bm) A W → W.cell? ⟨w.heap.size, 2, none⟩ = some c ∧ W.cell? ⟨w.heap.size, 3, none⟩ = some d
section
variable {F : Nat → Prop} {w : World} {t r made : Nat} {ks : List Nat}
theorem PR.box (h : PR F w t r ks made) (hF : ∀ k, w.heap.size ≤ k → F k) (a b c d : Value) (ty : TypeId) :
    ∃ Ft bm, (∀ k, (w.alloc (.cells #[a, b, c, d] ty)).heap.size ≤ k → Ft k) ∧ TB Ft (w.alloc (.cells #[a, b, c, d] ty)) t bm ks made ∧ (∀ W, Fr (tb t bm) (w.alloc (.cells #[a, b, c, d] ty)) W → Fr F w W) ∧
      Bx w (w.alloc (.cells #[a, b, c, d] ty)) t bm c d ∧ Ct F Ft w (w.alloc (.cells #[a, b, c, d] ty)) t bm r ks made := by
  obtain ⟨Ft, Fx, bm, T, R, h1, h2, h3⟩ := h
  have hA : Fr (fun _ => False) w (w.alloc (.cells #[a, b, c, d] ty)) := (Fr.refl _ w).alloc _
  have hsz : (w.alloc (.cells #[a, b, c, d] ty)).heap.size = w.heap.size + 1 := by simp
  have c2 : (w.alloc (.cells #[a, b, c, d] ty)).cell? ⟨w.heap.size, 2, none⟩ = some c := cell_at (heap_alloc_new w _) 2
  have c3 : (w.alloc (.cells #[a, b, c, d] ty)).cell? ⟨w.heap.size, 3, none⟩ = some d := cell_at (heap_alloc_new w _) 3
  have ht : t < w.heap.size := T.lt
  have hb : bm < w.heap.size := T.blt
  have hft : Ft t := T.ft
  have hfb : Ft bm := T.fb
  have TA := (T.cut).under hA fun _ _ h => h.elim
  have RA := (R.cut).under hA fun _ _ h => h.elim
  generalize w.alloc (.cells #[a, b, c, d] ty) = A at *
  have hFA : ∀ W, Fr (tb t bm) A W → Fr F w W := fun W hW => (hA.mono (T := F) fun _ _ h => h.elim).trans hW fun k hk => .inl (by rcases hk with rfl | rfl; exact h1 _ ht hft; exact h1 _ hb hfb)
  refine ⟨fun k => (Ft k ∧ k < w.heap.size) ∨ A.heap.size ≤ k, bm, fun k hk => .inr hk, TBx.to TA fun k _ h => .inl h, hFA, ?_, ?_⟩
  · intro W hW
    have hne : ¬ tb t bm w.heap.size := by rintro (h | h) <;> omega
    exact ⟨hW.cell c2 hne, hW.cell c3 hne⟩
  · intro w' ks' made' T' hf
    refine ⟨fun k => (Fx k ∧ k < w.heap.size) ∨ w'.heap.size ≤ k, fun k hk => .inr hk, ?_, ?_, fun w2 hf2 => ⟨fun R2 => ?_, ?_⟩⟩
    · exact (RA.under hf fun k hk hs hc => h3 k hc.2 (by rcases hs with rfl | rfl <;> assumption) hc.1).to fun k _ h => .inl h
    · rintro k hk hk2 (h | h) <;> omega
    · have hs1 := hf.size
      refine ⟨_, _, bm, (TBx.to T' (G := fun k => ((Ft k ∧ k < w.heap.size) ∨ A.heap.size ≤ k) ∧ k < w'.heap.size) fun k hk h => ⟨h, hk⟩).under hf2 ?_, R2, ?_, ?_, ?_⟩
      · rintro k hk (hs | hs) ⟨hc | hc, _⟩
        · exact h3 k hs.2 hc.1 hs.1
        · omega
        · omega
        · omega
      · rintro k hk ⟨hc | hc, _⟩
        · exact h1 k hc.2 hc.1
        · exact hF k (by omega)
      · rintro k hk (hc | hc)
        · exact h2 k hc.2 hc.1
        · exact hF k (by omega)
      · rintro k hk ⟨hc | hc, hc'⟩ (hd | hd)
        · exact h3 k hd.2 hc.1 hd.1
        · omega
        · omega
        · omega
    · refine (hFA w' hf).trans hf2 ?_
      rintro k (h | h)
      · exact .inl (h2 k h.2 h.1)
      · exact .inr (by have := hf.size; omega)
theorem PR.below (h : PR F w t r ks made) {w' : World} (hb : Below w.heap.size w w') : PR F w' t r ks made := h.under (S := fun _ => False) (Fr.of_below hb fun k h1 h2 => absurd h1 (by omega)) fun _ _ h => h.elim
theorem Fr.belw {S : Nat → Prop} {a b c : World} (h : Fr S a b) (hb : Below b.heap.size b c) : Fr S a c := h.trans (T := fun _ => False) (Fr.of_below hb fun k h1 h2 => absurd h1 (by omega)) fun _ h => h.elim
theorem nil02_c (w : World) : Calls Tryd.prog 20 #[.slice none 0 0, .slice none 0 0] w fun e w' => e = .returned (.bool true) ∧ Below w.heap.size w w' := by
  go_enter Tryd.func20, Tryd.ntmps20
  go_wp2_with fail
  go_loopw [5] (fun i wx => i = .int .i64 0 ∧ wx = w) (fun _ _ => 0)
  case atStart => exact ⟨rfl, rfl⟩
  case round =>
    obtain ⟨rfl, rfl⟩ := hrel
    go_wp2_with fail
    go_ret
    exact ⟨rfl, Below.refl _ _⟩
set_option maxRecDepth 100000 in
set_option maxHeartbeats 4000000 in
theorem st1Ok (h : PR F w t r ks made) (hF : ∀ k, w.heap.size ≤ k → F k) (hm : made < 4611686018427387904) (al : List Addr) (hE : ∀ W, Fr F w W → Errs W al) (s : Bool) (m : Int) (n : Nat) (h1 : 1 ≤ n) (h2 : n ≤ 16384) :
    Calls Tryd.prog 10 #[.pointer (some ⟨t, 0, none⟩), .pointer (some ⟨r, 0, none⟩), .agg #[.int .i64 1, .bool s, .int .i64 (n : Int), .int .i64 m]] w fun e w' => e = .returned (.bool true) ∧ ∃ ks' made', PR F w' t r ks' made' ∧ Fr F w w' ∧ made' ≤ made + 1 := by
  obtain ⟨Ft, bm, hnew, T, hFA, hB, hC⟩ := h.box hF (.int .i64 1) (.bool s) (.int .i64 (n : Int)) (.int .i64 m) 32
  have hEA : EK (w.alloc (.cells #[.int .i64 1, .bool s, .int .i64 (n : Int), .int .i64 m] 32)) t bm al := fun W hW => hE W (hFA W hW)
  have hE' : Hid (∀ W, Fr F w W → Errs W al) := hE
  have hsr : Hid (ks.Pairwise (· < ·) ∧ ∀ x ∈ ks, 1 ≤ x ∧ x ≤ 16384) := ⟨T.srt, T.bds⟩
  obtain ⟨A, eA⟩ : ∃ A, A = w.alloc (.cells #[.int .i64 1, .bool s, .int .i64 (n : Int), .int .i64 m] 32) := ⟨_, rfl⟩
  have eA' : Hid (A = w.alloc (.cells #[.int .i64 1, .bool s, .int .i64 (n : Int), .int .i64 m] 32)) := eA
  rw [← eA] at hnew T hB hC hEA hFA
  have hnew' : Hid (∀ k, A.heap.size ≤ k → Ft k) := hnew
  have T' : Hid (TB Ft A t bm ks made) := T
  have hB' : Hid (Bx w A t bm (.int .i64 (n : Int)) (.int .i64 m)) := hB
  have hC' : Hid (Ct F Ft w A t bm r ks made) := hC
  have hEA' : Hid (EK A t bm al) := hEA
  clear h hF hE hnew T hB hC hEA eA hFA
  go_enter Tryd.func10, Tryd.ntmps10
  go_wp2_with fail
  rw [← eA'.out]
  refine (at_c T'.out n m h1 h2 hm (.inr hnew'.out)).mono ?_
  rintro e w1 ⟨rfl, T1, F1⟩
  obtain ⟨b2, b3⟩ := hB'.out w1 F1
  obtain ⟨Fx, hx1, R1, hx2, hQ⟩ := hC'.out w1 _ _ T1 F1
  have hx1' : Hid (∀ k, w1.heap.size ≤ k → Fx k) := hx1
  have R1' : Hid (RT Fx w1 r ks made) := R1
  have hx2' : Hid (∀ k, w.heap.size ≤ k → k < w1.heap.size → ¬ Fx k) := hx2
  have hQ' : Hid (∀ w2, Fr Fx w1 w2 → (RT Fx w2 r (ins n ks) (nm n ks made) → PR F w2 t r (ins n ks) (nm n ks made)) ∧ Fr F w w2) := hQ
  clear T1 F1 hx1 R1 hx2 hQ T' hC' hB' hnew' hEA'
  obtain ⟨x, hx⟩ : ∃ x, Hid (Rp.pc n (Rp.md n m) = x) := ⟨_, rfl⟩
  obtain ⟨y, hy⟩ : ∃ y, Hid (Rp.pim n (Rp.md n m) = y) := ⟨_, rfl⟩
  have lx : x < 18446744073709551616 := by rw [← hx.out]; exact (Rp.pc_fin _ h1 (by omega)).1
  have ly : y < 18446744073709551616 := by rw [← hy.out]; exact (Rp.pim_fin _ h1 (by omega)).1
  rw [hx.out, hy.out]
  go_wp2_with fail
  refine (refAt_c R1'.out n m h1 h2 hm hx1'.out).mono ?_
  rw [hx.out, hy.out]
  rintro e w2 ⟨rfl, R2, F2⟩
  have P3 : Hid (PR F w2 t r (ins n ks) (nm n ks made)) := (hQ'.out w2 F2).1 R2
  have F3 : Hid (Fr F w w2) := (hQ'.out w2 F2).2
  clear R2 F2 R1' hx1' hx2' hQ' hx hy
  go_wp2_with fail
  refine (r2Same_q x y _ lx ly).mono ?_
  rintro e w4 ⟨rfl, rfl⟩
  go_wp2_with fail
  refine (numE_c (Er.nil al) _ (hE'.out _ F3.out)).mono ?_
  rintro e w5 ⟨rfl, B5⟩
  have P5 : Hid (PR F w5 t r (ins n ks) (nm n ks made)) := P3.out.below B5
  have F5 : Hid (Fr F w w5) := F3.out.belw B5
  clear B5 P3 F3
  go_wp2_with fail
  go_ret
  exact ⟨rfl, _, _, P5.out, F5.out, nm_le _ _ _⟩
set_option maxRecDepth 100000 in
set_option maxHeartbeats 4000000 in
theorem st1No (h : PR F w t r ks made) (hF : ∀ k, w.heap.size ≤ k → F k) (al : List Addr) (hE : ∀ W, Fr F w W → Errs W al) (s : Bool) (m : Int) (n : Int) (hn : inn n = false) (hb : -9223372036854775808 ≤ n ∧ n ≤ 9223372036854775807) :
    Calls Tryd.prog 10 #[.pointer (some ⟨t, 0, none⟩), .pointer (some ⟨r, 0, none⟩), .agg #[.int .i64 1, .bool s, .int .i64 n, .int .i64 m]] w fun e w' => e = .returned (.bool true) ∧ ∃ ks' made', PR F w' t r ks' made' ∧ Fr F w w' ∧ made' ≤ made + 1 := by
  obtain ⟨Ft, bm, hnew, T, hFA, hB, hC⟩ := h.box hF (.int .i64 1) (.bool s) (.int .i64 n) (.int .i64 m) 32
  have hEA : EK (w.alloc (.cells #[.int .i64 1, .bool s, .int .i64 n, .int .i64 m] 32)) t bm al := fun W hW => hE W (hFA W hW)
  have hE' : Hid (∀ W, Fr F w W → Errs W al) := hE
  have hsr : Hid (ks.Pairwise (· < ·) ∧ ∀ x ∈ ks, 1 ≤ x ∧ x ≤ 16384) := ⟨T.srt, T.bds⟩
  obtain ⟨A, eA⟩ : ∃ A, A = w.alloc (.cells #[.int .i64 1, .bool s, .int .i64 n, .int .i64 m] 32) := ⟨_, rfl⟩
  have eA' : Hid (A = w.alloc (.cells #[.int .i64 1, .bool s, .int .i64 n, .int .i64 m] 32)) := eA
  rw [← eA] at hnew T hB hC hEA hFA
  have hnew' : Hid (∀ k, A.heap.size ≤ k → Ft k) := hnew
  have T' : Hid (TB Ft A t bm ks made) := T
  have hB' : Hid (Bx w A t bm (.int .i64 n) (.int .i64 m)) := hB
  have hC' : Hid (Ct F Ft w A t bm r ks made) := hC
  have hEA' : Hid (EK A t bm al) := hEA
  clear h hF hE hnew T hB hC hEA eA hFA
  go_enter Tryd.func10, Tryd.ntmps10
  go_wp2_with fail
  rw [← eA'.out]
  refine (atNo_c T'.out n m hn hb al hEA'.out).mono ?_
  rintro e w1 ⟨rfl, T1, F1⟩
  obtain ⟨b2, b3⟩ := hB'.out w1 F1
  obtain ⟨Fx, hx1, R1, hx2, hQ⟩ := hC'.out w1 _ _ T1 F1
  have hx1' : Hid (∀ k, w1.heap.size ≤ k → Fx k) := hx1
  have R1' : Hid (RT Fx w1 r ks made) := R1
  have hx2' : Hid (∀ k, w.heap.size ≤ k → k < w1.heap.size → ¬ Fx k) := hx2
  have hQ' : Hid (∀ w2, Fr Fx w1 w2 → (RT Fx w2 r (ks) (made) → PR F w2 t r (ks) (made)) ∧ Fr F w w2) := hQ
  clear T1 F1 hx1 R1 hx2 hQ T' hC' hB' hnew' hEA'
  go_wp2_with fail
  refine (refAtNo_c r n m _ hn).mono ?_
  rintro e w2 ⟨rfl, rfl⟩
  have P3 : Hid (PR F w2 t r ks made) := (hQ'.out w2 (Fr.refl _ _)).1 R1'.out
  have F3 : Hid (Fr F w w2) := (hQ'.out w2 (Fr.refl _ _)).2
  clear R1' hx1' hx2' hQ'
  go_wp2_with fail
  refine (r2Same_q 0 0 _ (by decide) (by decide)).mono ?_
  rintro e w4 ⟨rfl, rfl⟩
  go_wp2_with fail
  refine (numE_c (Er.mk al 6 (by decide)) _ (hE'.out _ F3.out)).mono ?_
  rintro e w5 ⟨rfl, B5⟩
  have P5 : Hid (PR F w5 t r ks made) := P3.out.below B5
  have F5 : Hid (Fr F w w5) := F3.out.belw B5
  clear B5 P3 F3
  go_wp2_with fail
  go_ret
  exact ⟨rfl, _, _, P5.out, F5.out, Nat.le_succ _⟩
set_option maxRecDepth 100000 in
set_option maxHeartbeats 4000000 in
theorem st2Ok (h : PR F w t r ks made) (hF : ∀ k, w.heap.size ≤ k → F k) (hm : made < 4611686018427387904) (al : List Addr) (hE : ∀ W, Fr F w W → Errs W al) (s : Bool) (m : Int) (n : Nat) (h1 : 1 ≤ n) (h2 : n ≤ 16384) :
    Calls Tryd.prog 10 #[.pointer (some ⟨t, 0, none⟩), .pointer (some ⟨r, 0, none⟩), .agg #[.int .i64 2, .bool s, .int .i64 (n : Int), .int .i64 m]] w fun e w' => e = .returned (.bool true) ∧ ∃ ks' made', PR F w' t r ks' made' ∧ Fr F w w' ∧ made' ≤ made + 1 := by
  obtain ⟨Ft, bm, hnew, T, hFA, hB, hC⟩ := h.box hF (.int .i64 2) (.bool s) (.int .i64 (n : Int)) (.int .i64 m) 32
  have hEA : EK (w.alloc (.cells #[.int .i64 2, .bool s, .int .i64 (n : Int), .int .i64 m] 32)) t bm al := fun W hW => hE W (hFA W hW)
  have hE' : Hid (∀ W, Fr F w W → Errs W al) := hE
  have hsr : Hid (ks.Pairwise (· < ·) ∧ ∀ x ∈ ks, 1 ≤ x ∧ x ≤ 16384) := ⟨T.srt, T.bds⟩
  obtain ⟨A, eA⟩ : ∃ A, A = w.alloc (.cells #[.int .i64 2, .bool s, .int .i64 (n : Int), .int .i64 m] 32) := ⟨_, rfl⟩
  have eA' : Hid (A = w.alloc (.cells #[.int .i64 2, .bool s, .int .i64 (n : Int), .int .i64 m] 32)) := eA
  rw [← eA] at hnew T hB hC hEA hFA
  have hnew' : Hid (∀ k, A.heap.size ≤ k → Ft k) := hnew
  have T' : Hid (TB Ft A t bm ks made) := T
  have hB' : Hid (Bx w A t bm (.int .i64 (n : Int)) (.int .i64 m)) := hB
  have hC' : Hid (Ct F Ft w A t bm r ks made) := hC
  have hEA' : Hid (EK A t bm al) := hEA
  clear h hF hE hnew T hB hC hEA eA hFA
  go_enter Tryd.func10, Tryd.ntmps10
  go_wp2_with fail
  rw [← eA'.out]
  refine (list_t T'.out n h1 h2 hm (.inr hnew'.out)).mono ?_
  rintro e w1 ⟨wm, G, C, rfl, Tm, Fm, Bm, hG, O1⟩
  have T1 := Tm.below Bm
  have F1 := Fm.belw Bm
  obtain ⟨b2, b3⟩ := hB'.out w1 F1
  obtain ⟨Fx, hx1, R1, hx2, hQ⟩ := hC'.out w1 _ _ T1 F1
  have hx1' : Hid (∀ k, w1.heap.size ≤ k → Fx k) := hx1
  have R1' : Hid (RT Fx w1 r ks made) := R1
  have hx2' : Hid (∀ k, w.heap.size ≤ k → k < w1.heap.size → ¬ Fx k) := hx2
  have hQ' : Hid (∀ w2, Fr Fx w1 w2 → (RT Fx w2 r (ins n ks) (nm n ks made) → PR F w2 t r (ins n ks) (nm n ks made)) ∧ Fr F w w2) := hQ
  have C1 : Hid (Cel w1 G n) := Cel.own O1 h1
  have hGl : Hid (G < w1.heap.size ∧ w.heap.size ≤ G) := ⟨(O1.lt G rfl).2, Nat.le_trans (by rw [eA'.out]; simp) (Nat.le_trans Fm.size hG)⟩
  clear T1 F1 Tm Fm Bm hG O1 hx1 R1 hx2 hQ T' hC' hB' hnew' hEA'
  go_wp2_with fail
  refine (refList_c R1'.out n h1 h2 hm hx1'.out).mono ?_
  rintro e w3 ⟨w2, G2, D2, rfl, R2, F2, B2, hG2, C3⟩
  have P3 : Hid (PR F w3 t r (ins n ks) (nm n ks made)) := ((hQ'.out w2 F2).1 R2).below B2
  have F3 : Hid (Fr F w w3) := ((hQ'.out w2 F2).2).belw B2
  have C2 : Cel w2 G n := C1.out.fr F2 (hx2'.out G hGl.out.2 hGl.out.1)
  have C2' : Hid (Cel w3 G n) := C2.fr (S := fun _ => False) (Fr.of_below B2 fun k h1 h2 => absurd h1 (by omega)) (fun h => h)
  have C3' : Hid (Cel w3 G2 n) := C3
  clear R2 F2 R1' hx1' hx2' hQ' C1 C2 C3 hG2 B2 hGl
  go_wp2_with fail
  refine (sameRoots_c G G2 n _ _ _ h1 h2 C2'.out C3'.out).mono ?_
  rintro e w4 ⟨rfl, q, rfl⟩
  have P4 : Hid (PR F (w3.drewN q) t r (ins n ks) (nm n ks made)) := P3.out.below (below_drewN (Below.refl _ _) q)
  have F4 : Hid (Fr F w (w3.drewN q)) := F3.out.drewN q
  clear P3 F3 C2' C3'
  generalize w3.drewN q = w4 at *
  go_wp2_with fail
  refine (numE_c (Er.nil al) _ (hE'.out _ F4.out)).mono ?_
  rintro e w5 ⟨rfl, B5⟩
  have P5 : Hid (PR F w5 t r (ins n ks) (nm n ks made)) := P4.out.below B5
  have F5 : Hid (Fr F w w5) := F4.out.belw B5
  clear B5 P4 F4
  go_wp2_with fail
  go_ret
  exact ⟨rfl, _, _, P5.out, F5.out, nm_le _ _ _⟩
set_option maxRecDepth 100000 in
set_option maxHeartbeats 4000000 in
theorem st2No (h : PR F w t r ks made) (hF : ∀ k, w.heap.size ≤ k → F k) (al : List Addr) (hE : ∀ W, Fr F w W → Errs W al) (s : Bool) (m : Int) (n : Int) (hn : inn n = false) (hb : -9223372036854775808 ≤ n ∧ n ≤ 9223372036854775807) :
    Calls Tryd.prog 10 #[.pointer (some ⟨t, 0, none⟩), .pointer (some ⟨r, 0, none⟩), .agg #[.int .i64 2, .bool s, .int .i64 n, .int .i64 m]] w fun e w' => e = .returned (.bool true) ∧ ∃ ks' made', PR F w' t r ks' made' ∧ Fr F w w' ∧ made' ≤ made + 1 := by
  obtain ⟨Ft, bm, hnew, T, hFA, hB, hC⟩ := h.box hF (.int .i64 2) (.bool s) (.int .i64 n) (.int .i64 m) 32
  have hEA : EK (w.alloc (.cells #[.int .i64 2, .bool s, .int .i64 n, .int .i64 m] 32)) t bm al := fun W hW => hE W (hFA W hW)
  have hE' : Hid (∀ W, Fr F w W → Errs W al) := hE
  have hsr : Hid (ks.Pairwise (· < ·) ∧ ∀ x ∈ ks, 1 ≤ x ∧ x ≤ 16384) := ⟨T.srt, T.bds⟩
  obtain ⟨A, eA⟩ : ∃ A, A = w.alloc (.cells #[.int .i64 2, .bool s, .int .i64 n, .int .i64 m] 32) := ⟨_, rfl⟩
  have eA' : Hid (A = w.alloc (.cells #[.int .i64 2, .bool s, .int .i64 n, .int .i64 m] 32)) := eA
  rw [← eA] at hnew T hB hC hEA hFA
  have hnew' : Hid (∀ k, A.heap.size ≤ k → Ft k) := hnew
  have T' : Hid (TB Ft A t bm ks made) := T
  have hB' : Hid (Bx w A t bm (.int .i64 n) (.int .i64 m)) := hB
  have hC' : Hid (Ct F Ft w A t bm r ks made) := hC
  have hEA' : Hid (EK A t bm al) := hEA
  clear h hF hE hnew T hB hC hEA eA hFA
  go_enter Tryd.func10, Tryd.ntmps10
  go_wp2_with fail
  rw [← eA'.out]
  refine (listNo_c T'.out n hn hb al hEA'.out).mono ?_
  rintro e w1 ⟨rfl, T1, F1⟩
  obtain ⟨b2, b3⟩ := hB'.out w1 F1
  obtain ⟨Fx, hx1, R1, hx2, hQ⟩ := hC'.out w1 _ _ T1 F1
  have hx1' : Hid (∀ k, w1.heap.size ≤ k → Fx k) := hx1
  have R1' : Hid (RT Fx w1 r ks made) := R1
  have hx2' : Hid (∀ k, w.heap.size ≤ k → k < w1.heap.size → ¬ Fx k) := hx2
  have hQ' : Hid (∀ w2, Fr Fx w1 w2 → (RT Fx w2 r (ks) (made) → PR F w2 t r (ks) (made)) ∧ Fr F w w2) := hQ
  clear T1 F1 hx1 R1 hx2 hQ T' hC' hB' hnew' hEA'
  go_wp2_with fail
  refine (refListNo_c r n _ hn).mono ?_
  rintro e w2 ⟨rfl, rfl⟩
  have P3 : Hid (PR F w2 t r ks made) := (hQ'.out w2 (Fr.refl _ _)).1 R1'.out
  have F3 : Hid (Fr F w w2) := (hQ'.out w2 (Fr.refl _ _)).2
  clear R1' hx1' hx2' hQ'
  go_wp2_with fail
  refine (nil02_c _).mono ?_
  rintro e w4 ⟨rfl, B4⟩
  have P4 : Hid (PR F w4 t r ks made) := P3.out.below B4
  have F4 : Hid (Fr F w w4) := F3.out.belw B4
  clear P3 F3 B4
  go_wp2_with fail
  refine (numE_c (Er.mk al 6 (by decide)) _ (hE'.out _ F4.out)).mono ?_
  rintro e w5 ⟨rfl, B5⟩
  have P5 : Hid (PR F w5 t r ks made) := P4.out.below B5
  have F5 : Hid (Fr F w w5) := F4.out.belw B5
  clear B5 P4 F4
  go_wp2_with fail
  go_ret
  exact ⟨rfl, _, _, P5.out, F5.out, Nat.le_succ _⟩
theorem st3 (h : PR F w t r ks made) (hF : ∀ k, w.heap.size ≤ k → F k) (n m : Int) (s : Bool) :
    Calls Tryd.prog 10 #[.pointer (some ⟨t, 0, none⟩), .pointer (some ⟨r, 0, none⟩), .agg #[.int .i64 3, .bool s, .int .i64 n, .int .i64 m]] w fun e w' => e = .returned (.bool true) ∧ ∃ ks' made', PR F w' t r ks' made' ∧ Fr F w w' ∧ made' ≤ made + 1 := by
  have hA : PR F (w.alloc (.cells #[.int .i64 3, .bool s, .int .i64 n, .int .i64 m] 32)) t r ks made := h.under (S := fun _ => False) ((Fr.refl _ w).alloc _) fun _ _ h => h.elim
  have fA : Hid (Fr F w (w.alloc (.cells #[.int .i64 3, .bool s, .int .i64 n, .int .i64 m] 32))) := (Fr.refl _ w).alloc _
  have ht := tells_c hA (fun k hk => hF k (by simp at hk; omega))
  clear h hF hA
  go_enter Tryd.func10, Tryd.ntmps10
  go_wp2_with fail
  refine ht.mono ?_
  rintro e w1 ⟨rfl, P1, F1⟩
  have P1' : Hid (PR F w1 t r ks made) := P1
  have F1' : Hid (Fr F w w1) := fA.out.then F1
  clear ht P1 F1
  go_wp2_with fail
  go_ret
  exact ⟨rfl, _, _, P1'.out, F1'.out, Nat.le_succ _⟩
theorem st0 (h : PR F w t r ks made) (k n m : Int) (s : Bool) (h1 : k ≠ 1) (h2 : k ≠ 2) (h3 : k ≠ 3) (h4 : k ≠ 4) :
    Calls Tryd.prog 10 #[.pointer (some ⟨t, 0, none⟩), .pointer (some ⟨r, 0, none⟩), .agg #[.int .i64 k, .bool s, .int .i64 n, .int .i64 m]] w fun e w' => e = .returned (.bool true) ∧ ∃ ks' made', PR F w' t r ks' made' ∧ Fr F w w' ∧ made' ≤ made + 1 := by
  have g1 : (k == 1) = false := beq_eq_false_iff_ne.2 h1
  have g2 : (k == 2) = false := beq_eq_false_iff_ne.2 h2
  have g3 : (k == 3) = false := beq_eq_false_iff_ne.2 h3
  have g4 : (k == 4) = false := beq_eq_false_iff_ne.2 h4
  have hA : Hid (PR F (w.alloc (.cells #[.int .i64 k, .bool s, .int .i64 n, .int .i64 m] 32)) t r ks made) := h.under (S := fun _ => False) ((Fr.refl _ w).alloc _) fun _ _ h => h.elim
  have fA : Hid (Fr F w (w.alloc (.cells #[.int .i64 k, .bool s, .int .i64 n, .int .i64 m] 32))) := (Fr.refl _ w).alloc _
  clear h
  go_enter Tryd.func10, Tryd.ntmps10
  go_wp2_with fail
  go_ret
  exact ⟨rfl, _, _, hA.out, fA.out, Nat.le_succ _⟩
set_option maxRecDepth 100000 in
set_option maxHeartbeats 4000000 in
theorem st4Ok (h : PR F w t r ks made) (hF : ∀ k, w.heap.size ≤ k → F k) (s : Bool) (m : Int) (n : Nat) (hn : n ≤ 16384) :
    Calls Tryd.prog 10 #[.pointer (some ⟨t, 0, none⟩), .pointer (some ⟨r, 0, none⟩), .agg #[.int .i64 4, .bool s, .int .i64 (n : Int), .int .i64 m]] w fun e w' => e = .returned (.bool true) ∧ ∃ ks' made', PR F w' t r ks' made' ∧ Fr F w w' ∧ made' ≤ made + 1 := by
  obtain ⟨Ft, bm, hnew, T, hFA, hB, hC⟩ := h.box hF (.int .i64 4) (.bool s) (.int .i64 (n : Int)) (.int .i64 m) 32
  have hsr : Hid (ks.Pairwise (· < ·) ∧ ∀ x ∈ ks, 1 ≤ x ∧ x ≤ 16384) := ⟨T.srt, T.bds⟩
  obtain ⟨A, eA⟩ : ∃ A, A = w.alloc (.cells #[.int .i64 4, .bool s, .int .i64 (n : Int), .int .i64 m] 32) := ⟨_, rfl⟩
  have eA' : Hid (A = w.alloc (.cells #[.int .i64 4, .bool s, .int .i64 (n : Int), .int .i64 m] 32)) := eA
  rw [← eA] at hnew T hB hC hFA
  have hnew' : Hid (∀ k, A.heap.size ≤ k → Ft k) := hnew
  have T' : Hid (TB Ft A t bm ks made) := T
  have hB' : Hid (Bx w A t bm (.int .i64 (n : Int)) (.int .i64 m)) := hB
  have hC' : Hid (Ct F Ft w A t bm r ks made) := hC
  clear h hF hnew T hB hC eA hFA
  go_enter Tryd.func10, Tryd.ntmps10
  go_wp2_with fail
  obtain ⟨bb, hbd⟩ : ∃ bb, Hid (decide (n ∈ ks) = bb) := ⟨_, rfl⟩
  have hdd : Hid (decide ((dz (n : Int) ks).length < ks.length) = bb) := (dz_nat n hsr.out.1).2.trans hbd.out
  have hdz : Hid (dz (n : Int) ks = del n ks) := (dz_nat n hsr.out.1).1
  rw [← eA'.out]
  have b2 := (hB'.out A (Fr.refl _ _)).1
  have TD : Hid (TB Ft A.drew t bm ks made) := T'.out.below ((Below.refl _ _).drew)
  have FD : Hid (Fr (tb t bm) A A.drew) := (Fr.refl _ A).drew
  have hsz : Hid (w.heap.size < A.heap.size) := (by rw [eA'.out]; simp : w.heap.size < A.heap.size)
  go_region_held3 (fun W => W.cell? ⟨w.heap.size, 2, none⟩ = some (.int .i64 (n : Int))) (go_keep) ((first
    | (go_at_call 16
       refine (drop_c TD.out n hn).mono ?_
       rw [hbd.out]
       rintro e w1 ⟨rfl, T1, F1⟩
       have F1A : Fr (tb t bm) A w1 := FD.out.then F1
       have b3 := (hB'.out w1 F1A).1
       obtain ⟨Fx, hx1, R1, hx2, hQ⟩ := hC'.out w1 _ _ T1 F1A
       have hx1' : Hid (∀ k, w1.heap.size ≤ k → Fx k) := hx1
       have R1' : Hid (RT Fx w1 r ks made) := R1
       have hx2' : Hid (¬ Fx w.heap.size) := hx2 _ (Nat.le_refl _) (Nat.lt_of_lt_of_le hsz.out F1A.size)
       have hQ' : Hid (∀ w2, Fr Fx w1 w2 → (RT Fx w2 r (del n ks) made → PR F w2 t r (del n ks) made) ∧ Fr F w w2) := hQ
       clear T1 F1 F1A hx1 R1 hx2 hQ)
    | (go_at_call 25
       refine (refDrop_c R1'.out (n : Int) hx1'.out).mono ?_
       rw [hdd.out, hdz.out]
       rintro e w2 ⟨rfl, R2, F2⟩
       have b4 := F2.cell b3 hx2'.out
       have P5 : Hid (PR F w2 t r (del n ks) made) := (hQ'.out w2 F2).1 R2
       have F5 : Hid (Fr F w w2) := (hQ'.out w2 F2).2
       clear R2 F2)))
  go_wp2_with fail
  go_ret
  exact ⟨rfl, _, _, P5.out, F5.out, Nat.le_succ _⟩
set_option maxRecDepth 100000 in
set_option maxHeartbeats 4000000 in
theorem st4No (h : PR F w t r ks made) (hF : ∀ k, w.heap.size ≤ k → F k) (s : Bool) (m : Int) (n : Int) (hn : inn n = false) (hb : -9223372036854775808 ≤ n ∧ n ≤ 9223372036854775807) :
    Calls Tryd.prog 10 #[.pointer (some ⟨t, 0, none⟩), .pointer (some ⟨r, 0, none⟩), .agg #[.int .i64 4, .bool s, .int .i64 n, .int .i64 m]] w fun e w' => e = .returned (.bool true) ∧ ∃ ks' made', PR F w' t r ks' made' ∧ Fr F w w' ∧ made' ≤ made + 1 := by
  obtain ⟨Ft, bm, hnew, T, hFA, hB, hC⟩ := h.box hF (.int .i64 4) (.bool s) (.int .i64 n) (.int .i64 m) 32
  have hsr : Hid (ks.Pairwise (· < ·) ∧ ∀ x ∈ ks, 1 ≤ x ∧ x ≤ 16384) := ⟨T.srt, T.bds⟩
  obtain ⟨A, eA⟩ : ∃ A, A = w.alloc (.cells #[.int .i64 4, .bool s, .int .i64 n, .int .i64 m] 32) := ⟨_, rfl⟩
  have eA' : Hid (A = w.alloc (.cells #[.int .i64 4, .bool s, .int .i64 n, .int .i64 m] 32)) := eA
  rw [← eA] at hnew T hB hC hFA
  have hnew' : Hid (∀ k, A.heap.size ≤ k → Ft k) := hnew
  have T' : Hid (TB Ft A t bm ks made) := T
  have hB' : Hid (Bx w A t bm (.int .i64 n) (.int .i64 m)) := hB
  have hC' : Hid (Ct F Ft w A t bm r ks made) := hC
  clear h hF hnew T hB hC eA hFA
  go_enter Tryd.func10, Tryd.ntmps10
  go_wp2_with fail
  have hdz : Hid (dz n ks = ks) := dz_out n hn hsr.out.2
  have hdd : Hid (decide ((dz n ks).length < ks.length) = false) := by rw [hdz.out]; exact decide_eq_false (by omega)
  rw [← eA'.out]
  have b2 := (hB'.out A (Fr.refl _ _)).1
  have TD : Hid (TB Ft A.drew t bm ks made) := T'.out.below ((Below.refl _ _).drew)
  have FD : Hid (Fr (tb t bm) A A.drew) := (Fr.refl _ A).drew
  have hsz : Hid (w.heap.size < A.heap.size) := (by rw [eA'.out]; simp : w.heap.size < A.heap.size)
  go_region_held3 (fun W => W.cell? ⟨w.heap.size, 2, none⟩ = some (.int .i64 n)) (go_keep) ((first
    | (go_at_call 16
       refine (dropNo_c TD.out n hn hb).mono ?_
       rintro e w1 ⟨rfl, T1, F1⟩
       have F1A : Fr (tb t bm) A w1 := FD.out.then F1
       have b3 := (hB'.out w1 F1A).1
       obtain ⟨Fx, hx1, R1, hx2, hQ⟩ := hC'.out w1 _ _ T1 F1A
       have hx1' : Hid (∀ k, w1.heap.size ≤ k → Fx k) := hx1
       have R1' : Hid (RT Fx w1 r ks made) := R1
       have hx2' : Hid (¬ Fx w.heap.size) := hx2 _ (Nat.le_refl _) (Nat.lt_of_lt_of_le hsz.out F1A.size)
       have hQ' : Hid (∀ w2, Fr Fx w1 w2 → (RT Fx w2 r (ks) made → PR F w2 t r (ks) made) ∧ Fr F w w2) := hQ
       clear T1 F1 F1A hx1 R1 hx2 hQ)
    | (go_at_call 25
       refine (refDrop_c R1'.out n hx1'.out).mono ?_
       rw [hdd.out, hdz.out]
       rintro e w2 ⟨rfl, R2, F2⟩
       have b4 := F2.cell b3 hx2'.out
       have P5 : Hid (PR F w2 t r (ks) made) := (hQ'.out w2 F2).1 R2
       have F5 : Hid (Fr F w w2) := (hQ'.out w2 F2).2
       clear R2 F2)))
  go_wp2_with fail
  go_ret
  exact ⟨rfl, _, _, P5.out, F5.out, Nat.le_succ _⟩
theorem step_c (h : PR F w t r ks made) (hF : ∀ k, w.heap.size ≤ k → F k) (hm : made < 4611686018427387904) (al : List Addr) (hE : ∀ W, Fr F w W → Errs W al) (s : Bool) (k n m : Int) (hb : -9223372036854775808 ≤ n ∧ n ≤ 9223372036854775807) :
    Calls Tryd.prog 10 #[.pointer (some ⟨t, 0, none⟩), .pointer (some ⟨r, 0, none⟩), .agg #[.int .i64 k, .bool s, .int .i64 n, .int .i64 m]] w fun e w' => e = .returned (.bool true) ∧ ∃ ks' made', PR F w' t r ks' made' ∧ Fr F w w' ∧ made' ≤ made + 1 := by
  have hsp : inn n = false ∨ ∃ q : Nat, n = (q : Int) ∧ 1 ≤ q ∧ q ≤ 16384 := by
    cases hi : inn n with
    | false => exact .inl rfl
    | true =>
      have := of_decide_eq_true hi
      exact .inr ⟨n.toNat, by omega, by omega, by omega⟩
  by_cases k1 : k = 1
  · subst k1
    rcases hsp with hn | ⟨q, rfl, q1, q2⟩
    · exact st1No h hF al hE s m n hn hb
    · exact st1Ok h hF hm al hE s m q q1 q2
  by_cases k2 : k = 2
  · subst k2
    rcases hsp with hn | ⟨q, rfl, q1, q2⟩
    · exact st2No h hF al hE s m n hn hb
    · exact st2Ok h hF hm al hE s m q q1 q2
  by_cases k3 : k = 3
  · subst k3
    exact st3 h hF n m s
  by_cases k4 : k = 4
  · subst k4
    rcases hsp with hn | ⟨q, rfl, q1, q2⟩
    · exact st4No h hF s m n hn hb
    · exact st4Ok h hF s m q q2
  exact st0 h k n m s k1 k2 k3 k4
end
end Go.Proofs.YtljopkmpcolgfaaDoor
namespace Go.Proofs.YtljopkmpcolgfaaDoor
open Flo Go.RowKit Go.Maps Go.MuLone
theorem opAt_below {w w' : World} {q p : Nat} {k n m : Int} {s : Bool} (h : OpAt w q p k s n m) (hq : q < w.heap.size) (hb : Below w.heap.size w w') : OpAt w' q p k s n m :=
  ⟨(hb.cell (p := ⟨q, p, none⟩) hq).trans h.c0, (hb.cell (p := ⟨q, p + 1, none⟩) hq).trans h.c1, (hb.cell (p := ⟨q, p + 2, none⟩) hq).trans h.c2, (hb.cell (p := ⟨q, p + 3, none⟩) hq).trans h.c3, h.b0, h.b2, h.b3⟩
set_option maxRecDepth 100000 in
set_option maxHeartbeats 8000000 in
theorem heavy_c (ao : Option Addr) (len cap : Nat) (w : World) (hI : InO w ao len) (hl : len ≤ 4398046510976) :
    Calls Tryd.prog 8 #[.slice ao len cap] w fun e w' => (∃ b, e = .returned (.bool b) ∧ (b = false → len ≤ 60000)) ∧ Below w.heap.size w w' := by
  have hI' : Hid (InO w ao len) := hI
  clear hI
  go_enter Tryd.func8, Tryd.ntmps8
  go_wp2_with fail
  go_loopw [3, 5, 8] (fun sn _ si wx => ∃ i c : Nat, i ≤ len ∧ si = .int .i64 (i : Int) ∧ sn = .int .i64 (c : Int) ∧ i ≤ c ∧ c ≤ i * 16385 ∧ Hid (Below w.heap.size w wx)) (fun _ _ si _ => len - (RowKit.intOf si).toNat)
  case atStart => exact ⟨0, 0, Nat.zero_le _, rfl, rfl, Nat.le_refl _, Nat.zero_le _, Below.refl _ _⟩
  case round =>
    obtain ⟨i, c, hil, rfl, rfl, hic, hci, B⟩ := hrel
    have hcb : c ≤ 80000000000000000 := by omega
    by_cases hlt : i < len
    · have hlt' : (i : Int) < (len : Int) := by omega
      obtain ⟨q, o, k, s, n, m, rfl, hq, O⟩ := hI'.out i hlt
      obtain ⟨c0, c1, c2, c3, b0, b2, b3⟩ := opAt_below O hq B.out
      have hal := B.out.alloc B.out.size (.cells #[.int .i64 k, .bool s, .int .i64 n, .int .i64 m] 32)
      have hal' : Hid (Below w.heap.size w (wr.alloc (.cells #[.int .i64 k, .bool s, .int .i64 n, .int .i64 m] 32))) := hal
      clear hal O B hI'
      by_cases n0 : 0 < n
      · by_cases n1 : n ≤ 16384
        · obtain ⟨x, rfl⟩ : ∃ x : Nat, n = (x : Int) := ⟨n.toNat, by omega⟩
          have x0 : 0 < x := by omega
          have x1 : x ≤ 16384 := by omega
          by_cases k1 : k = 1
          · subst k1
            go_wp2_with fail
            go_roundw
            case rel => exact ⟨i + 1, c + 1 + x, by omega, by go_num, by go_num, by omega, by omega, hal'⟩
            case measure => simp [RowKit.intOf]; omega
          · have k1' : (k == 1) = false := beq_eq_false_iff_ne.2 k1
            by_cases k2 : k = 2
            · subst k2
              go_wp2_with fail
              go_roundw
              case rel => exact ⟨i + 1, c + 1 + x, by omega, by go_num, by go_num, by omega, by omega, hal'⟩
              case measure => simp [RowKit.intOf]; omega
            · have k2' : (k == 2) = false := beq_eq_false_iff_ne.2 k2
              go_wp2_with fail
              go_roundw
              case rel => exact ⟨i + 1, c + 1, by omega, by go_num, by go_num, by omega, by omega, hal'⟩
              case measure => simp [RowKit.intOf]; omega
        · have n1' : decide (n ≤ 16384) = false := decide_eq_false n1
          have n0' : decide (n > 0) = true := decide_eq_true n0
          go_wp2_with fail
          go_roundw
          case rel => exact ⟨i + 1, c + 1, by omega, by go_num, by go_num, by omega, by omega, hal'⟩
          case measure => simp [RowKit.intOf]; omega
      · have n0' : decide (n > 0) = false := decide_eq_false n0
        go_wp2_with fail
        go_roundw
        case rel => exact ⟨i + 1, c + 1, by omega, by go_num, by go_num, by omega, by omega, hal'⟩
        case measure => simp [RowKit.intOf]; omega
    · have hlt' : decide ((i : Int) < (len : Int)) = false := decide_eq_false (by omega)
      have him : i = len := by omega
      subst him
      by_cases hg : c > 60000
      · have hg' : (c : Int) > 60000 := by omega
        go_wp2_with fail
        go_ret
        exact ⟨⟨true, by first | rfl | simp [hg], fun h => by cases h⟩, B.out⟩
      · have hg' : decide ((c : Int) > 60000) = false := decide_eq_false (by omega)
        go_wp2_with fail
        go_ret
        exact ⟨⟨false, by first | rfl | simp [hg], fun _ => by omega⟩, B.out⟩
end Go.Proofs.YtljopkmpcolgfaaDoor
