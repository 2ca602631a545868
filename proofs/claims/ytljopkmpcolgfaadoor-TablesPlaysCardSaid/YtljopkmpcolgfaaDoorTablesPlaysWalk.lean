/-
  P8.1: every call over two Tables, in every order.
-/
import Derived.Test.YtljopkmpcolgfaaDoorRx8
namespace Go.Proofs.YtljopkmpcolgfaaDoor
open Flo Go.RowKit Go.Maps Go.MuLone
/-- two Tables and two of the document's beside them -/
def PP (N : Nat) (w0 W : World) (a x b y : Nat) (ka : List Nat) (ma : Nat) (kb : List Nat) (mb : Nat) : Prop :=
  ∃ Fa Fb, PR Fa W a x ka ma ∧ PR Fb W b y kb mb ∧ (∀ k, k < W.heap.size → Fa k → ¬ Fb k) ∧ (∀ k, k < W.heap.size → Fa k → N ≤ k) ∧ (∀ k, k < W.heap.size → Fb k → N ≤ k) ∧ Below N w0 W ∧ N ≤ W.heap.size
section
variable {N : Nat} {w0 W W' : World} {a x b y ma mb : Nat} {ka kb : List Nat}
theorem PP.swap (h : PP N w0 W a x b y ka ma kb mb) : PP N w0 W b y a x kb mb ka ma := by
  obtain ⟨Fa, Fb, h1, h2, h3, h4, h5, h6, h7⟩ := h
  exact ⟨Fb, Fa, h2, h1, fun k hk hb ha => h3 k hk ha hb, h5, h4, h6, h7⟩
theorem PP.below (h : PP N w0 W a x b y ka ma kb mb) : Below N w0 W := by
  obtain ⟨Fa, Fb, h1, h2, h3, h4, h5, h6, h7⟩ := h
  exact h6
theorem PP.size (h : PP N w0 W a x b y ka ma kb mb) : N ≤ W.heap.size := by
  obtain ⟨Fa, Fb, h1, h2, h3, h4, h5, h6, h7⟩ := h
  exact h7
theorem PP.one (h : PP N w0 W a x b y ka ma kb mb) : ∃ F, (∀ k, W.heap.size ≤ k → F k) ∧ PR F W a x ka ma ∧ (∀ W', Fr F W W' → Below N w0 W') ∧
    ∀ W' ka' ma', PR F W' a x ka' ma' → Fr F W W' → PP N w0 W' a x b y ka' ma' kb mb := by
  obtain ⟨Fa, Fb, h1, h2, h3, h4, h5, h6, h7⟩ := h
  have hB : ∀ W', Fr (fun k => Fa k ∨ W.heap.size ≤ k) W W' → Below N w0 W' := fun W' hf => hf.below h6 h7 fun k hk hs => by
    rcases hs with hs | hs
    · exact h4 k hk hs
    · omega
  refine ⟨fun k => Fa k ∨ W.heap.size ≤ k, fun k hk => .inr hk, h1.to fun k _ h => .inl h, hB, fun W' ka' ma' hP hf => ?_⟩
  have hs := hf.size
  refine ⟨fun k => (Fa k ∧ k < W.heap.size) ∨ (W.heap.size ≤ k), fun k => Fb k ∧ k < W.heap.size, ?_, (h2.to (G := fun k => Fb k ∧ k < W.heap.size) fun k hk h => ⟨h, hk⟩).under hf ?_, ?_, ?_, ?_, hB W' hf, by omega⟩
  · refine hP.to fun k _ h => ?_
    rcases Nat.lt_or_ge k W.heap.size with c | c
    · exact h.elim (fun h => .inl ⟨h, c⟩) .inr
    · exact .inr c
  · rintro k hk (h | h) hc
    · exact h3 k hk h hc.1
    · omega
  · rintro k _ (h | h) hc
    · exact h3 k h.2 h.1 hc.1
    · omega
  · rintro k _ (h | h)
    · exact h4 k h.2 h.1
    · omega
  · exact fun k _ h => h5 k h.2 h.1
theorem PP.alloc (h : PP N w0 W a x b y ka ma kb mb) (o : Obj) : PP N w0 (W.alloc o) a x b y ka ma kb mb := by
  obtain ⟨F, hF, hP, hB, hQ⟩ := h.one
  have hf : Fr F W (W.alloc o) := (Fr.refl _ W).alloc o
  exact hQ _ _ _ (hP.under (S := fun _ => False) ((Fr.refl _ W).alloc o) fun _ _ h => h.elim) hf
end
theorem TBx.nil_to {F G : Nat → Prop} {w : World} {t bm : Nat} (h : TB F w t bm [] 0) (h1 : G t) (h2 : G bm) : TB G w t bm [] 0 := by
  obtain ⟨D, g, ho, hk, hc⟩ := h.map_
  exact ⟨h.c0, h.c2, h.c3, h.f0, h.f3, h.ne, h1, h2, h.srt, h.bds, D, g, ho, hk, fun x hx => by simp at hx⟩
theorem RT.new {w : World} {r : Nat} (h : w.heap[r]? = some (.cells #[.slice none 0 0, .int .i64 0] 30)) : RT (fun k => k = r) w r [] 0 :=
  ⟨.slice none 0 0, ⟨cell_at h 0, cell_at h 1, frz h 0, frz h 1, World.ownsRow_nil _ _ _ _, fun e => (by cases e), rfl, fun b hb => (by cases hb)⟩, List.Pairwise.nil, fun x hx => by simp at hx⟩
/-- as they begin -/
theorem pp_start {w w2 w3 w4 : World} {a bma b bmb : Nat} (B2 : Below w.heap.size w w2) (ha : w2.heap.size ≤ a) (hbma : w2.heap.size ≤ bma) (T3 : TB (fun _ => True) w3 a bma [] 0) (B3 : Below w2.heap.size w2 w3)
    (hb : w3.heap.size ≤ b) (hbmb : w3.heap.size ≤ bmb) (T4 : TB (fun _ => True) w4 b bmb [] 0) (B4 : Below w3.heap.size w3 w4) :
    PP w.heap.size w ((w4.alloc (.cells #[.slice none 0 0, .int .i64 0] 30)).alloc (.cells #[.slice none 0 0, .int .i64 0] 30)) a w4.heap.size b (w4.heap.size + 1) [] 0 [] 0 := by
  have l1 := T3.lt
  have l2 := T3.blt
  have l3 := T4.lt
  have l4 := T4.blt
  have s2 := B2.size
  have s3 := B3.size
  have s4 := B4.size
  have n1 := heap_alloc_new w4 (.cells #[.slice none 0 0, .int .i64 0] 30)
  have hA : Fr (fun _ => False) w4 (w4.alloc (.cells #[.slice none 0 0, .int .i64 0] 30)) := (Fr.refl _ w4).alloc _
  have z1 : (w4.alloc (.cells #[.slice none 0 0, .int .i64 0] 30)).heap.size = w4.heap.size + 1 := by simp
  have hW : Below w.heap.size w (w4.alloc (.cells #[.slice none 0 0, .int .i64 0] 30)) := (((B2.trans (B3.mono s2)).trans (B4.mono (by omega)))).alloc (by omega) _
  generalize w4.alloc (.cells #[.slice none 0 0, .int .i64 0] 30) = A at *
  have n2 := heap_alloc_new A (.cells #[.slice none 0 0, .int .i64 0] 30)
  have hA2 : Fr (fun _ => False) A (A.alloc (.cells #[.slice none 0 0, .int .i64 0] 30)) := (Fr.refl _ A).alloc _
  have z2 : (A.alloc (.cells #[.slice none 0 0, .int .i64 0] 30)).heap.size = A.heap.size + 1 := by simp
  have hW2 : Below w.heap.size w (A.alloc (.cells #[.slice none 0 0, .int .i64 0] 30)) := hW.alloc (by omega) _
  generalize A.alloc (.cells #[.slice none 0 0, .int .i64 0] 30) = C at *
  have f4 : Fr (fun _ => False) w4 C := hA.trans hA2 fun _ h => h.elim
  have Ta : TB (fun k => k = a ∨ k = bma) C a bma [] 0 := ((T3.below B4).nil_to (.inl rfl) (.inr rfl)).under f4 fun _ _ h => h.elim
  have Tb : TB (fun k => k = b ∨ k = bmb) C b bmb [] 0 := (T4.nil_to (.inl rfl) (.inr rfl)).under f4 fun _ _ h => h.elim
  have Rx : RT (fun k => k = w4.heap.size) C w4.heap.size [] 0 := (RT.new n1).under hA2 fun _ _ h => h.elim
  have Ry : RT (fun k => k = w4.heap.size + 1) C (w4.heap.size + 1) [] 0 := by rw [← z1]; exact RT.new n2
  refine ⟨fun k => k = a ∨ k = bma ∨ k = w4.heap.size, fun k => k = b ∨ k = bmb ∨ k = w4.heap.size + 1, ⟨_, _, bma, Ta, Rx, ?_, ?_, ?_⟩, ⟨_, _, bmb, Tb, Ry, ?_, ?_, ?_⟩, ?_, ?_, ?_, hW2, by omega⟩
  · rintro k _ (h | h); exact .inl h; exact .inr (.inl h)
  · exact fun k _ h => .inr (.inr h)
  · rintro k _ (h | h) h' <;> omega
  · rintro k _ (h | h); exact .inl h; exact .inr (.inl h)
  · exact fun k _ h => .inr (.inr h)
  · rintro k _ (h | h) h' <;> omega
  · rintro k _ (h | h | h) (h' | h' | h') <;> omega
  · rintro k _ (h | h | h) <;> omega
  · rintro k _ (h | h | h) <;> omega
end Go.Proofs.YtljopkmpcolgfaaDoor
namespace Go.Proofs.YtljopkmpcolgfaaDoor.tablesPlays
open Flo Go.RowKit Go.Maps Go.MuLone
set_option maxRecDepth 100000 in
set_option maxHeartbeats 8000000 in
theorem walk (ao : Option Addr) (len cap : Nat) (w : World) (al : List Addr) (he : Errs w al) (hI : InO w ao len) (hl : len ≤ 4398046510976) :
    Calls Tryd.prog 3 #[.slice ao len cap] w fun e w' => e = .returned (.bool true) ∧ Below w.heap.size w w' := by
  have he' : Hid (Errs w al) := he
  have hI' : Hid (InO w ao len) := hI
  clear he hI
  go_enter Tryd.func3, Tryd.ntmps3
  go_wp2_with fail
  refine (fixed8_c w al he'.out).mono ?_
  rintro e w1 ⟨rfl, B1⟩
  have B1' : Hid (Below w.heap.size w w1) := B1
  clear B1
  go_wp2_with fail
  have hI1 : InO w1 ao len := fun i hi => by
    obtain ⟨q, o, k, s, n, m, e, hq, O⟩ := hI'.out i hi
    exact ⟨q, o, k, s, n, m, e, Nat.lt_of_lt_of_le hq B1'.out.size, opAt_below O hq B1'.out⟩
  refine (heavy_c ao len cap w1 hI1 hl).mono ?_
  clear hI1
  rintro e w2 ⟨⟨b, rfl, hb⟩, B2⟩
  have B2' : Hid (Below w.heap.size w w2) := B1'.out.trans (B2.mono B1'.out.size)
  clear B2 B1'
  cases b
  case true =>
    clear hb
    go_wp2_with fail
    go_ret
    exact ⟨rfl, B2'.out⟩
  case false =>
    have hlen := hb rfl
    clear hb
    go_wp2_with fail
    refine (new_c _).mono ?_
    rintro e w3 ⟨a, bma, rfl, ha, hbma, T3, B3⟩
    have T3' : Hid (TB (fun _ => True) w3 a bma [] 0) := T3
    have B3' : Hid (Below w2.heap.size w2 w3) := B3
    clear T3 B3
    go_wp2_with fail
    refine (new_c _).mono ?_
    rintro e w4 ⟨b, bmb, rfl, hb, hbmb, T4, B4⟩
    have T4' : Hid (TB (fun _ => True) w4 b bmb [] 0) := T4
    have B4' : Hid (Below w3.heap.size w3 w4) := B4
    clear T4 B4
    go_wp2_with fail
    have hP : Hid (PP w.heap.size w ((w4.alloc (.cells #[.slice none 0 0, .int .i64 0] 30)).alloc (.cells #[.slice none 0 0, .int .i64 0] 30)) a w4.heap.size b (w4.heap.size + 1) [] 0 [] 0) := pp_start B2'.out ha hbma T3'.out B3'.out hb hbmb T4'.out B4'.out
    obtain ⟨x, hx⟩ : ∃ x, x = w4.heap.size := ⟨_, rfl⟩
    rw [← hx] at hP ⊢
    obtain ⟨y, hy⟩ : ∃ y, y = x + 1 := ⟨_, rfl⟩
    rw [← hy] at hP ⊢
    clear hx hy T3' B3' T4' B4' B2' ha hbma hb hbmb
    go_loopw [8, 9, 28] (fun _ _ si wx => ∃ i ma mb : Nat, ∃ ka kb, i ≤ len ∧ si = .int .i64 (i : Int) ∧ ma ≤ i ∧ mb ≤ i ∧ Hid (PP w.heap.size w wx a x b y ka ma kb mb)) (fun _ _ si _ => len - (RowKit.intOf si).toNat)
    case atStart => exact ⟨0, 0, 0, [], [], Nat.zero_le _, rfl, Nat.le_refl _, Nat.le_refl _, hP⟩
    case round =>
      obtain ⟨i, ma, mb, ka, kb, hil, rfl, hma, hmb, P⟩ := hrel
      by_cases hlt : i < len
      · have hlt' : (i : Int) < (len : Int) := by omega
        obtain ⟨q, o, k, s, n, m, rfl, hq, O⟩ := hI'.out i hlt
        obtain ⟨c0, c1, c2, c3, b0, b2, b3⟩ := opAt_below O hq P.out.below
        have PA : Hid (PP w.heap.size w (wr.alloc (.cells #[.int .i64 k, .bool s, .int .i64 n, .int .i64 m] 32)) a x b y ka ma kb mb) := P.out.alloc _
        clear P O hP
        cases s
        case true =>
          obtain ⟨F, hF, hR, hB, hQ⟩ := PA.out.swap.one
          have hst := step_c hR hF (by omega) al (fun W hW => he'.out.below (hB W hW)) true k n m b2
          have hst' : Hid (Calls Tryd.prog 10 #[.pointer (some ⟨b, 0, none⟩), .pointer (some ⟨y, 0, none⟩), .agg #[.int .i64 k, .bool true, .int .i64 n, .int .i64 m]] (wr.alloc (.cells #[.int .i64 k, .bool true, .int .i64 n, .int .i64 m] 32)) fun e w' => e = .returned (.bool true) ∧ ∃ kb' mb', PP w.heap.size w w' a x b y ka ma kb' mb' ∧ mb' ≤ mb + 1) :=
            hst.mono fun e w' ⟨h1, k', m', h2, h3, h4⟩ => ⟨h1, k', m', (hQ w' k' m' h2 h3).swap, h4⟩
          clear hst hF hR hB hQ PA b0 b2 b3
          go_wp2_with fail
          refine hst'.out.mono ?_
          rintro e w6 ⟨rfl, kb', mb', P6, h6⟩
          have P6' : Hid (PP w.heap.size w w6 a x b y ka ma kb' mb') := P6
          clear P6 hst'
          go_wp2_with fail
          go_roundw
          case rel => exact ⟨i + 1, ma, mb', ka, kb', by omega, by go_num, by omega, by omega, P6'⟩
          case measure => simp [RowKit.intOf]; omega
        case false =>
          obtain ⟨F, hF, hR, hB, hQ⟩ := PA.out.one
          have hst := step_c hR hF (by omega) al (fun W hW => he'.out.below (hB W hW)) false k n m b2
          have hst' : Hid (Calls Tryd.prog 10 #[.pointer (some ⟨a, 0, none⟩), .pointer (some ⟨x, 0, none⟩), .agg #[.int .i64 k, .bool false, .int .i64 n, .int .i64 m]] (wr.alloc (.cells #[.int .i64 k, .bool false, .int .i64 n, .int .i64 m] 32)) fun e w' => e = .returned (.bool true) ∧ ∃ ka' ma', PP w.heap.size w w' a x b y ka' ma' kb mb ∧ ma' ≤ ma + 1) :=
            hst.mono fun e w' ⟨h1, k', m', h2, h3, h4⟩ => ⟨h1, k', m', hQ w' k' m' h2 h3, h4⟩
          clear hst hF hR hB hQ PA b0 b2 b3
          go_wp2_with fail
          refine hst'.out.mono ?_
          rintro e w6 ⟨rfl, ka', ma', P6, h6⟩
          have P6' : Hid (PP w.heap.size w w6 a x b y ka' ma' kb mb) := P6
          clear P6 hst'
          go_wp2_with fail
          go_roundw
          case rel => exact ⟨i + 1, ma', mb, ka', kb, by omega, by go_num, by omega, by omega, P6'⟩
          case measure => simp [RowKit.intOf]; omega
      · have hlt' : decide ((i : Int) < (len : Int)) = false := decide_eq_false (by omega)
        clear hP
        go_wp2_with fail
        obtain ⟨F, hF, hR, hB, hQ⟩ := P.out.one
        refine (tells_c hR hF).mono ?_
        rintro e w6 ⟨rfl, R6, F6⟩
        have P6 : Hid (PP w.heap.size w w6 a x b y ka ma kb mb) := hQ w6 ka ma R6 F6
        clear P hF hR hB hQ R6 F6
        go_wp2_with fail
        obtain ⟨F, hF, hR, hB, hQ⟩ := P6.out.swap.one
        refine (tells_c hR hF).mono ?_
        rintro e w7 ⟨rfl, R7, F7⟩
        have B7 : Hid (Below w.heap.size w w7) := hB w7 F7
        clear P6 hF hR hB hQ R7 F7
        go_wp2_with fail
        go_ret
        exact ⟨rfl, B7.out⟩
end Go.Proofs.YtljopkmpcolgfaaDoor.tablesPlays
