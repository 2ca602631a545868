/-
  The statements' own 'gone': it answers all divisors, as a new list, and true.
-/
import Derived.Test.YtkgecgkjmikihabDoorDv1
import Derived.Test.YtkgecgkjmikihabDoorIln
namespace Go.Proofs.YtkgecgkjmikihabDoor
open Flo Go.RowKit Go.Shelf
attribute [local go_sem] Oper.semAt_some

theorem ownsRow_low {w : World} {base base' : Nat} {e : TypeId} {size : Nat} {v : Value} {n : Nat} {xs : List Value} (h : w.ownsRow base e size v n xs) (hb : base' ≤ base) : w.ownsRow base' e size v n xs := by
  obtain ⟨h1, h2⟩ := h
  refine ⟨h1, ?_⟩
  rcases h2 with h2 | ⟨g, cap, cur, hv, hg, r⟩
  · exact .inl h2
  · exact .inr ⟨g, cap, cur, hv, by omega, r⟩
theorem ownsRow_sl {W : World} {base : Nat} {e : TypeId} {size : Nat} {v : Value} {k : Nat} {xs : List Value} (h : W.ownsRow base e size v k xs) : ∃ ao m c, v = .slice ao m c := by
  rcases h.2 with ⟨rfl, _⟩ | ⟨g, cap, _, rfl, _⟩
  · exact ⟨_, _, _, rfl⟩
  · exact ⟨_, _, _, rfl⟩
theorem dvL_few {N : Int} {s : Nat} (hs : rtOk N s) : (dvL N s).length ≤ 5000 := by
  unfold dvL
  split
  · exact Nt.DV_few (by omega) (by omega) hs.1 hs.2
  · simp
theorem seq_nil (lb : Array Value) (w : World) : (binOp .eql 45 (.func (.func 29) #[] lb) .nilFunc).run Tryd.prog w = .ok (.bool false) w := by kernel_rfl
set_option maxRecDepth 100000 in
set_option maxHeartbeats 4000000 in
theorem gone_in (F : Fence) (n : Nat) (h3 : F.fn 18) (h4 : F.fn 19) (h5 : F.fn 29) (hro : F.round = none) (hn : 3 ≤ n) (N : Int) (s : Nat) (hs : rtOk N s) (w : World) :
    CallsIn F n Tryd.prog 18 #[.int .i64 N] w fun e W' => ∃ v, e = .returned (.tuple #[v, .bool true]) ∧ W'.ownsRow w.heap.size 3 1 v (dvL N s).length (il (dvL N s)) ∧ Below w.heap.size w W' := by
  have h1 : 1 ≤ n := by omega
  have hsH : Hid (rtOk N s) := hs
  have hfew : (dvL N s).length ≤ 5000 := dvL_few hs
  clear hs
  obtain ⟨i0, hi, hz0, hz1, hz2⟩ := info_parts infoInt
  refine callsIn_of_wp_marks Tryd.func18 rfl h3 ?_ hro
  simp only [Tryd.ntmps18, List.size_toArray, List.length_cons, List.length_nil, Nat.reduceAdd, Nat.reduceSub, Array.replicate_succ, Array.replicate_zero, List.push_toArray, List.append_toArray, List.nil_append, List.cons_append]
  have hnil := seq_nil #[.pointer (some ⟨w.heap.size + 1 + 1, 0, none⟩)]
  gi_wp2_with (gi_at_call 19; refine (divisors_in F (n - 1) h4 hro _ _).mono ?_; rintro e w' ⟨rfl, rfl⟩)
  clear hnil
  have bR := Boxed.new w 29 (.slice none 0 0)
  have bT := Boxed.new (w.alloc (.cells #[.slice none 0 0] 29)) 4 (.bool false)
  have bN := Boxed.new ((w.alloc (.cells #[.slice none 0 0] 29)).alloc (.cells #[.bool false] 4)) 3 (.int .i64 N)
  have bL := Boxed.new (((w.alloc (.cells #[.slice none 0 0] 29)).alloc (.cells #[.bool false] 4)).alloc (.cells #[.int .i64 N] 3)) 29 (.slice none 0 0)
  simp only [World.size_alloc] at bT bN bL
  have bR' := ((bR.alloc (.cells #[.bool false] 4)).alloc (.cells #[.int .i64 N] 3)).alloc (.cells #[.slice none 0 0] 29)
  have bT' := (bT.alloc (.cells #[.int .i64 N] 3)).alloc (.cells #[.slice none 0 0] 29)
  have bN' := bN.alloc (.cells #[.slice none 0 0] 29)
  have hB0 : Below w.heap.size w ((((w.alloc (.cells #[.slice none 0 0] 29)).alloc (.cells #[.bool false] 4)).alloc (.cells #[.int .i64 N] 3)).alloc (.cells #[.slice none 0 0] 29)) := ((((Below.refl _ w).alloc (Nat.le_refl _) _).alloc (by simp) _).alloc (by simp; omega) _).alloc (by simp; omega) _
  have hz : ((((w.alloc (.cells #[.slice none 0 0] 29)).alloc (.cells #[.bool false] 4)).alloc (.cells #[.int .i64 N] 3)).alloc (.cells #[.slice none 0 0] 29)).heap.size = w.heap.size + 4 := by simp
  clear bR bT bN
  generalize ((((w.alloc (.cells #[.slice none 0 0] 29)).alloc (.cells #[.bool false] 4)).alloc (.cells #[.int .i64 N] 3)).alloc (.cells #[.slice none 0 0] 29)) = W0 at bR' bT' bN' bL hB0 hz ⊢
  refine wpIn_rangeFunc_ownG hro h1 (gf := 29) (lb := #[.pointer (some ⟨w.heap.size + 1 + 1, 0, none⟩)]) rfl h5 (enters_of Tryd.func29 (by kernel_rfl) rfl)
    (dvs_stops F (n - 1) h5 hro (by omega) (w.heap.size + 1 + 1) (w.heap.size + 3) N s hsH.out W0 (by omega) (by omega) bN'.cell) belowK_t (belowK_b (by omega)) (Below.refl _ _) (fun _ => rfl)
    (fun pre W => (∃ v, Boxed W (w.heap.size + 3) 29 v ∧ W.ownsRow (w.heap.size + 3) 3 1 v pre.length (il pre) ∧ True) ∧ Below (w.heap.size + 3) W0 W)
    (fun _ _ _ => False)
    (OwnFrom.and (Own.from (holdsRow_own (w.heap.size + 3) (w.heap.size + 3) 29 3 1 (fun pre => pre.length) (fun pre => il pre) (fun _ _ => True)) _) (ownFrom_below (by omega) (by omega)))
    (fun _ _ _ _ _ hs _ _ => hs)
    ⟨⟨_, bL, World.ownsRow_nil _ _ _ _, trivial⟩, Below.refl _ _⟩
    (fun x => { tmps := #[.int .i64 N, undef, .pointer (some ⟨w.heap.size, 0, none⟩), .pointer (some ⟨w.heap.size + 1, 0, none⟩), .func (.func 29) #[] #[.pointer (some ⟨w.heap.size + 1 + 1, 0, none⟩)], .pointer (some ⟨w.heap.size + 3, 0, none⟩), .int .i64 (x : Int), .int .i64 N, .func (.func 29) #[] #[.pointer (some ⟨w.heap.size + 1 + 1, 0, none⟩)], .func (.func 29) #[] #[.pointer (some ⟨w.heap.size + 1 + 1, 0, none⟩)], .bool false, .func (.func 29) #[] #[.pointer (some ⟨w.heap.size + 1 + 1, 0, none⟩)], .int .i64 (x : Int), undef, undef, undef, undef, undef, undef, undef, undef], defers := [] }) ?assign ?body ?done ?stop
  case assign =>
    intro l x W K hK
    gi_wp2
    exact hK
  case body =>
    rintro l pre x W ⟨⟨v, hv, hrow, _⟩, hB⟩ hlt
    have hc := hv.cell
    have hsn : Hid (il (pre ++ [x]) = il pre ++ [.int .i64 (x : Int)]) := il_snoc pre x
    gi_wp2_with (gi_at_builtin; refine wpListIn_append_own _ rfl _ _ 29 rfl (w.heap.size + 3) 3 i0 (.int .i64 0) 1 8 Tryd.underlying29 hi hz0 hz1 hz2 rfl (by decide) _ _ _ rfl (hrow.alloc _) ⟨W.heap.size, 0, none⟩ 1 1 [.int .i64 (x : Int)] rfl rfl (cell_one_new _ _ _) (by simp [Value.oneCell']) (by unfold maxLen; omega) (by omega) (by have := hB.size; simp; omega) ?_; intro v' w1 hown' hgrow _; obtain ⟨g', cap', rfl⟩ := ownsRow_succ hown'; obtain ⟨hv1, hv2, hr2, hk2, hb2⟩ := hv.appended (by decide) hrow (by have := hB.size; omega) (Nat.le_refl _) hown' hgrow; have hc1 := hv1.cell; have hf1 := hv1.frozen)
    exact ⟨hk2.from _, hb2, ⟨_, hv2, by rw [hsn.out]; simpa using hr2, trivial⟩, hB.trans hb2⟩
  case done =>
    rintro D ys W hD rfl ⟨⟨v, hv, hrow, _⟩, hB⟩ hK
    obtain ⟨ao, m, cp, rfl⟩ := ownsRow_sl hrow
    have hc := hv.cell
    have hcR : W.cell? ⟨w.heap.size, 0, none⟩ = some (.slice none 0 0) := (hB.cell (p := ⟨w.heap.size, 0, none⟩) (show w.heap.size < _ by omega)).trans bR'.cell
    have hfR : W.frozen? ⟨w.heap.size, 0, none⟩ = false := (hB.frozen (p := ⟨w.heap.size, 0, none⟩) (show w.heap.size < _ by omega)).trans bR'.frozen
    have hcT : W.cell? ⟨w.heap.size + 1, 0, none⟩ = some (.bool false) := (hB.cell (p := ⟨w.heap.size + 1, 0, none⟩) (show w.heap.size + 1 < _ by omega)).trans bT'.cell
    have hfT : W.frozen? ⟨w.heap.size + 1, 0, none⟩ = false := (hB.frozen (p := ⟨w.heap.size + 1, 0, none⟩) (show w.heap.size + 1 < _ by omega)).trans bT'.frozen
    clear bR' bT' bN' bL
    gi_wp2
    have hK' := (KeepsOthers.setCell (W.setCell ⟨w.heap.size, 0, none⟩ (.slice ao m cp)) ⟨w.heap.size + 1, 0, none⟩ (.bool true)).same D _ ((KeepsOthers.setCell W ⟨w.heap.size, 0, none⟩ (.slice ao m cp)).same D _ hK rfl) rfl
    refine ⟨by simp, .inl ⟨_, _, rfl, run_takeDeferred hK', ?_⟩⟩
    have e1 : (W.setCell ⟨w.heap.size, 0, none⟩ (.slice ao m cp)).cell? ⟨w.heap.size + 1, 0, none⟩ = some (.bool false) := by
      rw [World.cell?_setCell_other _ _ _ _ (by simp)]; exact hcT
    have e2 : ((W.setCell ⟨w.heap.size, 0, none⟩ (.slice ao m cp)).setCell ⟨w.heap.size + 1, 0, none⟩ (.bool true)).cell? ⟨w.heap.size, 0, none⟩ = some (.slice ao m cp) := by
      rw [World.cell?_setCell_other _ _ _ _ (by simp)]; exact World.cell?_setCell_same' _ _ _ (by rw [hcR]; rfl)
    have e3 : ((W.setCell ⟨w.heap.size, 0, none⟩ (.slice ao m cp)).setCell ⟨w.heap.size + 1, 0, none⟩ (.bool true)).cell? ⟨w.heap.size + 1, 0, none⟩ = some (.bool true) := World.cell?_setCell_same' _ _ _ (by rw [e1]; rfl)
    have hc5 := cell_kept e2 (grownBy_putObj' _ D (.deferred none)) (fun r e => by cases e; exact ⟨_, hK', rfl⟩)
    have hc6 := cell_kept e3 (grownBy_putObj' _ D (.deferred none)) (fun r e => by cases e; exact ⟨_, hK', rfl⟩)
    refine ⟨.tuple #[.slice ao m cp, .bool true], ?_, .slice ao m cp, rfl, ?_, ?_⟩
    · simp [results, Tryd.f18, go_sem, hc5, hc6]
    · exact ownsRow_low (ownsRow_putObj (ownsRow_setCell_below (ownsRow_setCell_below hrow (a := ⟨w.heap.size, 0, none⟩) (show w.heap.size < _ by omega) _) (a := ⟨w.heap.size + 1, 0, none⟩) (show w.heap.size + 1 < _ by omega) _) _ hK' rfl) (by omega)
    · exact (((hB0.trans (hB.mono (by omega))).setCell (p := ⟨w.heap.size, 0, none⟩) (Nat.le_refl _) _).setCell (p := ⟨w.heap.size + 1, 0, none⟩) (show w.heap.size ≤ w.heap.size + 1 by omega) _).trans (belowK_b (w := w) (Nat.le_refl _) _ D _ _ (by omega) hK' rfl rfl)
  case stop =>
    rintro D c pre W _ _ h _
    exact h.elim
theorem gone_c (N : Int) (s : Nat) (hs : rtOk N s) (w : World) :
    Calls Tryd.prog 18 #[.int .i64 N] w fun e W' => ∃ v, e = .returned (.tuple #[v, .bool true]) ∧ W'.ownsRow w.heap.size 3 1 v (dvL N s).length (il (dvL N s)) ∧ Below w.heap.size w W' :=
  (callsIn_wide (n := 3)).1 (gone_in _ 3 trivial trivial trivial rfl (Nat.le_refl _) N s hs w)
end Go.Proofs.YtkgecgkjmikihabDoor
