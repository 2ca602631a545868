/-
  Package steps, reading: what Upto tells, an array that is filled; readHead.
-/
import Derived.Test.YtmlfichdfeblpaaDoorSp8
import Derived.Test.YtmlfichdfeblpaaDoorQk7
namespace Go.Proofs.YtmlfichdfeblpaaDoor
open Flo Go.RowKit
section
variable {bs : List Nat}
theorem rf_app : ∀ (l m : List Bool) (k : Nat), Sp.rf bs (l ++ m) k = (Sp.rf bs l k).bind fun p => (Sp.rf bs m p.2).map fun q => (p.1 ++ q.1, q.2)
  | [], m, k => by simp [Sp.rf]
  | false :: l, m, k => by
    simp only [List.cons_append, Sp.rf, rf_app l m k]
    cases Sp.rf bs l k with
    | none => rfl
    | some p => cases hq : Sp.rf bs m p.2 <;> simp [hq]
  | true :: l, m, k => by
    simp only [List.cons_append, Sp.rf]
    cases Sp.rn bs 262144 k with
    | none => rfl
    | some q =>
      simp only [Option.bind_some, rf_app l m q.2]
      cases Sp.rf bs l q.2 with
      | none => rfl
      | some p => cases hq : Sp.rf bs m p.2 <;> simp [hq]
theorem rf_none {l : List Bool} {k : Nat} (m : List Bool) (h : Sp.rf bs l k = none) : Sp.rf bs (l ++ m) k = none := by rw [rf_app, h]; rfl
theorem rf_t_none {l : List Bool} {k j : Nat} {xs : List Nat} (h : Sp.rf bs l k = some (xs, j)) (h2 : Sp.rn bs 262144 j = none) : Sp.rf bs (l ++ [true]) k = none := by
  rw [rf_app, h]; simp [Sp.rf, h2]
theorem rf_t_some {l : List Bool} {k j i x : Nat} {xs : List Nat} (h : Sp.rf bs l k = some (xs, j)) (h2 : Sp.rn bs 262144 j = some (x, i)) : Sp.rf bs (l ++ [true]) k = some (xs ++ [x], i) := by
  rw [rf_app, h]; simp [Sp.rf, h2]
theorem rf_f {l : List Bool} {k j : Nat} {xs : List Nat} (h : Sp.rf bs l k = some (xs, j)) : Sp.rf bs (l ++ [false]) k = some (xs ++ [0], j) := by
  rw [rf_app, h]; simp [Sp.rf]
theorem take_snoc {l : List Bool} {k : Nat} (h : k < l.length) : l.take (k + 1) = l.take k ++ [l.getD k false] := by
  rw [List.take_succ_eq_append_getElem h, List.getD_eq_getElem?_getD, List.getElem?_eq_getElem h]; rfl
theorem rf_cut {l : List Bool} {k j : Nat} (h : Sp.rf bs (l.take k) j = none) : Sp.rf bs l j = none := by
  rw [← List.take_append_drop k l]; exact rf_none _ h
theorem rn_lt {most k x j : Nat} (h : Sp.rn bs most k = some (x, j)) : x ≤ most := by
  unfold Sp.rn at h
  cases hr : Pk.rv 0 0 (bs.drop k) with
  | error c => rw [hr] at h; cases h
  | ok p =>
    rw [hr] at h
    simp only at h
    by_cases hy : most < p.1
    · rw [if_pos hy] at h; cases h
    · rw [if_neg hy] at h; simp at h; omega
end
/-- what Upto tells -/
def UpE (al : List Addr) (bs : List Nat) (most k : Nat) (R : Nat → Prop) (g : Nat) (w : World) (e : Ending) (w' : World) : Prop :=
  Fr (fun k => k = g) w w' ∧ ((Sp.rn bs most k = none ∧ ∃ c, e = .returned (.tuple #[.int .i64 0, ek al c])) ∨ ∃ x j : Nat, Sp.rn bs most k = some (x, j) ∧ e = .returned (.tuple #[.int .i64 (x : Int), .nilIface]) ∧ Rr R w' g bs j)
theorem srn_c (R : Nat → Prop) (g k most : Nat) (bs : List Nat) (al : List Addr) (w : World) (h : Rr R w g bs k) (he : E4 w al) (hg : ¬ 4 = g) (hm : most ≤ 1000000000) :
    Calls Tryd.prog 32 #[.pointer (some ⟨g, 0, none⟩), .int .i64 (most : Int)] w fun e w' => UpE al bs most k R g w e w' := by
  refine (rupto_c R g k (most : Int) bs al w h he hg (by omega)).mono ?_
  rintro e w' ⟨rfl, h1, h2⟩
  refine ⟨h2, ?_⟩
  cases hr : Pk.rv 0 0 (bs.drop k) with
  | error c =>
    left
    rw [upr_err]
    exact ⟨by unfold Sp.rn; rw [hr], c, rfl⟩
  | ok p =>
    obtain ⟨x, n⟩ := p
    rw [hr] at h1
    by_cases hx : most < x
    · left
      rw [upr_lim (.inr (by omega))]
      exact ⟨by unfold Sp.rn; rw [hr]; simp only; rw [if_pos hx], 2, rfl⟩
    · right
      rw [upr_ok (by omega)] at h1 ⊢
      exact ⟨x, k + n, by unfold Sp.rn; rw [hr]; simp only; rw [if_neg hx], rfl, h1⟩
/-- no block of a variable that is read here -/
def Ng (g : Nat) : Prop := ¬ 19 = g ∧ ¬ 0 = g ∧ ¬ 2 = g ∧ ¬ 3 = g ∧ ¬ 4 = g ∧ ¬ 1 = g
theorem E4.fr {w w' : World} {al : List Addr} {g : Nat} (h : E4 w al) (hf : Fr (fun k => k = g) w w') (hg : Ng g) : E4 w' al :=
  ⟨hf.cell h.short hg.2.2.1, hf.cell h.varint hg.2.2.2.1, hf.cell h.limit hg.2.2.2.2.1, hf.cell h.tail hg.2.2.2.2.2, hf.cell h.prog hg.2.1⟩
/-- an array that is being filled -/
def Ar (w : World) (b n : Nat) (xs : List Nat) : Prop := ∀ i, i < n → w.cell? ⟨b, i, none⟩ = some (.int .i64 (xs.getD i 0 : Nat)) ∧ w.frozen? ⟨b, i, none⟩ = false
theorem Ar.fr {S : Nat → Prop} {w w' : World} {b n : Nat} {xs : List Nat} (h : Ar w b n xs) (hf : Fr S w w') (hS : ¬ S b) : Ar w' b n xs := fun i hi =>
  ⟨hf.cell (h i hi).1 hS, (hf.frozen (p := ⟨b, i, none⟩) (cell_lt (h i hi).1) hS).trans (h i hi).2⟩
theorem Ar.zero {w : World} {b n : Nat} {xs : List Nat} (h : Ar w b n xs) : Ar w b n (xs ++ [0]) := fun i hi => by
  refine ⟨?_, (h i hi).2⟩
  rw [(h i hi).1]
  have e : (xs ++ [0]).getD i 0 = xs.getD i 0 := by
    rcases Nat.lt_or_ge i xs.length with h1 | h1
    · simp [List.getD, List.getElem?_append_left h1]
    · rcases Nat.eq_or_lt_of_le h1 with h2 | h2
      · subst h2; simp [List.getD]
      · simp [List.getD, List.getElem?_eq_none (show (xs ++ [0]).length ≤ i by simp; omega), List.getElem?_eq_none h1]
  rw [e]
theorem Ar.set {w : World} {b n : Nat} {xs : List Nat} (h : Ar w b n xs) (x : Nat) : Ar (w.setCell ⟨b, xs.length, none⟩ (.int .i64 (x : Int))) b n (xs ++ [x]) := fun i hi => by
  refine ⟨?_, by rw [World.frozen?_setCell]; exact (h i hi).2⟩
  by_cases e : i = xs.length
  · subst e
    rw [World.cell?_setCell_same _ _ _ (h _ hi).1]
    simp [List.getD]
  · rw [World.cell?_setCell_other _ _ _ _ (by simp), (h i hi).1]
    rcases Nat.lt_or_ge i xs.length with h1 | h1
    · simp [List.getD, List.getElem?_append_left h1]
    · simp [List.getD, List.getElem?_eq_none h1, List.getElem?_eq_none (show (xs ++ [x]).length ≤ i by simp; omega)]
theorem set_fr (w : World) (b i : Nat) (u : Value) : Fr (fun k => k = b) w (w.setCell ⟨b, i, none⟩ u) := Fr.setCell (S := fun k => k = b) (p := ⟨b, i, none⟩) (Fr.refl _ w) rfl u
theorem Bpg.fr {S : Nat → Prop} {w w' : World} {g : Nat} {p : Sp.Pg} {v : Value} (h : Bpg w g p v) (hf : Fr S w w') (hS : ¬ S g) : Bpg w' g p v := ⟨hf.cell h.c0 hS, hf.cell h.c1 hS, hf.cell h.c2 hS, hf.cell h.c3 hS, hf.cell h.c4 hS⟩
theorem Bpg.set {w : World} {b : Nat} {p : Sp.Pg} {v : Value} (h : Bpg w b p v) (p' : Sp.Pg) (v' : Value) : Bpg (((((w.setCell ⟨b, 0, none⟩ (.int .i64 p'.len)).setCell ⟨b, 1, none⟩ (.int .i64 p'.cells)).setCell ⟨b, 2, none⟩ (.int .i64 p'.inn)).setCell ⟨b, 3, none⟩ (.int .i64 p'.out)).setCell ⟨b, 4, none⟩ (v')) b p' v' := ⟨by simp [World.cell?_setCell_other, World.cell?_setCell_same, h.c0], by simp [World.cell?_setCell_other, World.cell?_setCell_same, h.c1], by simp [World.cell?_setCell_other, World.cell?_setCell_same, h.c2], by simp [World.cell?_setCell_other, World.cell?_setCell_same, h.c3], by simp [World.cell?_setCell_other, World.cell?_setCell_same, h.c4]⟩
theorem set5_fr (w : World) (b : Nat) (v0 v1 v2 v3 v4 : Value) : Fr (fun k => k = b) w (((((w.setCell ⟨b, 0, none⟩ (v0)).setCell ⟨b, 1, none⟩ (v1)).setCell ⟨b, 2, none⟩ (v2)).setCell ⟨b, 3, none⟩ (v3)).setCell ⟨b, 4, none⟩ (v4)) := ((((Fr.setCell (S := fun k => k = b) (p := ⟨b, 0, none⟩) (Fr.refl _ w) rfl v0).setCell (p := ⟨b, 1, none⟩) rfl v1).setCell (p := ⟨b, 2, none⟩) rfl v2).setCell (p := ⟨b, 3, none⟩) rfl v3).setCell (p := ⟨b, 4, none⟩) rfl v4
theorem Bst.set {w : World} {b : Nat} {op dst src jump count n k : Int} (h : Bst w b op dst src jump count n k) (s : Sp.St) : Bst (((((((w.setCell ⟨b, 0, none⟩ (.int .i64 s.op)).setCell ⟨b, 1, none⟩ (.int .i64 s.dst)).setCell ⟨b, 2, none⟩ (.int .i64 s.src)).setCell ⟨b, 3, none⟩ (.int .i64 s.jump)).setCell ⟨b, 4, none⟩ (.int .i64 s.count)).setCell ⟨b, 5, none⟩ (.int .i64 s.n)).setCell ⟨b, 6, none⟩ (.int .i64 s.k)) b s.op s.dst s.src s.jump s.count s.n s.k := ⟨by simp [World.cell?_setCell_other, World.cell?_setCell_same, h.c0], by simp [World.cell?_setCell_other, World.cell?_setCell_same, h.c1], by simp [World.cell?_setCell_other, World.cell?_setCell_same, h.c2], by simp [World.cell?_setCell_other, World.cell?_setCell_same, h.c3], by simp [World.cell?_setCell_other, World.cell?_setCell_same, h.c4], by simp [World.cell?_setCell_other, World.cell?_setCell_same, h.c5], by simp [World.cell?_setCell_other, World.cell?_setCell_same, h.c6]⟩
theorem set7_fr (w : World) (b : Nat) (v0 v1 v2 v3 v4 v5 v6 : Value) : Fr (fun k => k = b) w (((((((w.setCell ⟨b, 0, none⟩ (v0)).setCell ⟨b, 1, none⟩ (v1)).setCell ⟨b, 2, none⟩ (v2)).setCell ⟨b, 3, none⟩ (v3)).setCell ⟨b, 4, none⟩ (v4)).setCell ⟨b, 5, none⟩ (v5)).setCell ⟨b, 6, none⟩ (v6)) := ((((((Fr.setCell (S := fun k => k = b) (p := ⟨b, 0, none⟩) (Fr.refl _ w) rfl v0).setCell (p := ⟨b, 1, none⟩) rfl v1).setCell (p := ⟨b, 2, none⟩) rfl v2).setCell (p := ⟨b, 3, none⟩) rfl v3).setCell (p := ⟨b, 4, none⟩) rfl v4).setCell (p := ⟨b, 5, none⟩) rfl v5).setCell (p := ⟨b, 6, none⟩) rfl v6
/-- what readHead tells -/
def RhE (al : List Addr) (bs : List Nat) (k : Nat) (R : Nat → Prop) (g : Nat) (w : World) (e : Ending) (w' : World) : Prop :=
  Fr (fun k => k = g) w w' ∧ ((Sp.rf bs [true, true, true, true] k = none ∧ ∃ c, e = .returned (.tuple #[.agg #[.int .i64 0, .int .i64 0, .int .i64 0, .int .i64 0, .slice none 0 0], ek al c])) ∨
    ∃ (xs : List Nat) (j : Nat), Sp.rf bs [true, true, true, true] k = some (xs, j) ∧ e = .returned (.tuple #[.agg #[.int .i64 (xs.getD 0 0 : Nat), .int .i64 (xs.getD 1 0 : Nat), .int .i64 (xs.getD 2 0 : Nat), .int .i64 (xs.getD 3 0 : Nat), .slice none 0 0], .nilIface]) ∧ Rr R w' g bs j)
set_option maxHeartbeats 4000000 in
set_option maxRecDepth 100000 in
theorem sreadHead_c (R : Nat → Prop) (g K : Nat) (bs : List Nat) (al : List Addr) (w : World) (h : Rr R w g bs K) (he : E4 w al) (hg : Ng g) (hR : ∀ k, R k → k < w.heap.size) :
    Calls Tryd.prog 31 #[.pointer (some ⟨g, 0, none⟩)] w fun e w' => RhE al bs K R g w e w' := by
  have hgl := h.lt
  obtain ⟨b0, hb0⟩ : ∃ b, Hid (w.heap.size = b) := ⟨_, (rfl : _ = _)⟩
  obtain ⟨w1, ew1⟩ : ∃ wa, Hid ((w.alloc (.cells #[.int .i64 0, .int .i64 0, .int .i64 0, .int .i64 0, .slice none 0 0] 26)).alloc (.cells #[.int .i64 0, .int .i64 0, .int .i64 0, .int .i64 0] 63) = wa) := ⟨_, (rfl : _ = _)⟩
  have B1 : Hid (Below w.heap.size w w1) := by rw [← ew1.out]; exact ((Below.refl _ _).alloc (Nat.le_refl _) _).alloc (by simp) _
  have X1 : Hid (Bpg w1 b0 ⟨0, 0, 0, 0, []⟩ (.slice none 0 0)) := by
    rw [← ew1.out, ← hb0.out]
    exact (Bpg.new w ⟨0, 0, 0, 0, []⟩ (.slice none 0 0)).below ((Below.refl _ _).alloc (Nat.le_refl _) _)
  have Z1 : Hid (∀ i, w1.frozen? ⟨b0, i, none⟩ = false) := fun i => by
    rw [← ew1.out, ← hb0.out]
    exact (World.frozen?_of_block (a := ⟨w.heap.size, i, none⟩) (Below.heap_alloc _ _ _ (by simp))).trans (by simp)
  have A1 : Hid (Ar w1 (b0 + 1) 4 []) := fun i hi => by
    rw [← ew1.out, ← hb0.out]
    match i, hi with
    | 0, _ => simp
    | 1, _ => simp
    | 2, _ => simp
    | 3, _ => simp
    | n + 4, h => exact absurd h (by omega)
  have F1 : Hid (Fr (fun k => k = g) w w1) := Fr.of_below B1.out fun k h1 h2 => by omega
  have R1 : Hid (Rr R w1 g bs K) := h.under (S := fun _ => False) (Fr.of_below B1.out fun k h1 h2 => by omega) fun k _ h => h.elim
  have heH : Hid (E4 w al) := he
  have hgH : Hid (Ng g) := hg
  have hRH : Hid (∀ k, R k → k < b0) := by rw [← hb0.out]; exact hR
  have hgb : Hid (g < b0) := by show _ < _; rw [← hb0.out]; exact hgl
  have s1 : Hid (w1.heap.size = b0 + 2) := by show _ = _; rw [← ew1.out, ← hb0.out]; simp
  clear h he hg hR hgl
  go_enter Tryd.func31, Tryd.ntmps31
  go_upto_region 2 with fail
  rw [ew1.out, hb0.out]
  go_wp2
  go_loopw [8] (fun i wr => ∃ (k : Nat) (xs : List Nat) (j : Nat), k ≤ 4 ∧ xs.length = k ∧ i = .int .i64 k ∧ Hid (Sp.rf bs (List.take k [true, true, true, true]) K = some (xs, j)) ∧ Hid (Rr R wr g bs j) ∧ Hid (Ar wr (b0 + 1) 4 xs) ∧ Hid (Fr (fun k => k = g) w wr) ∧ Hid (Fr (fun k => k = g ∨ k = b0 + 1) w1 wr)) (fun i _ => 4 - (intOf i).toNat)
  case atStart => exact ⟨0, [], K, Nat.zero_le _, rfl, rfl, (rfl : _ = _), R1, A1, F1, Fr.refl _ _⟩
  case round =>
    obtain ⟨k, xs, j, hk, hxl, rfl, hrf, Rk, Ak, Fk, Gk⟩ := hrel
    have Ek : Hid (E4 wr al) := heH.out.fr Fk.out hgH.out
    have Xk : Bpg wr b0 ⟨0, 0, 0, 0, []⟩ (.slice none 0 0) := X1.out.fr Gk.out (by have := hgb.out; simp; omega)
    have Zk : Hid (∀ i, wr.frozen? ⟨b0, i, none⟩ = false) := fun i => (Gk.out.frozen (p := ⟨b0, i, none⟩) (by have := s1.out; simp; omega) (by have := hgb.out; simp; omega)).trans (Z1.out i)
    by_cases hlt : k < 4
    · have hlt' : (k : Int) < 4 := by omega
      have hup : Hid (Calls Tryd.prog 32 #[.pointer (some ⟨g, 0, none⟩), .int .i64 262144] wr fun e w' => UpE al bs 262144 j R g wr e w') := srn_c R g j 262144 bs al wr Rk.out Ek.out hgH.out.2.2.2.2.1 (by decide)
      have htk : Hid (List.take (k + 1) [true, true, true, true] = List.take k [true, true, true, true] ++ [true]) := by
        match k, hlt with
        | 0, _ => rfl
        | 1, _ => rfl
        | 2, _ => rfl
        | 3, _ => rfl
        | n + 4, h => exact absurd h (by omega)
      obtain ⟨x0, x1, x2, x3, x4⟩ := Xk
      go_wp2_with fail
      refine hup.out.mono ?_
      rintro e w2 ⟨F2, hcs⟩
      have F2H : Hid (Fr (fun k => k = g) wr w2) := F2
      have X2 : Bpg w2 b0 ⟨0, 0, 0, 0, []⟩ (.slice none 0 0) := Bpg.fr ⟨x0, x1, x2, x3, x4⟩ F2 (by have := hgb.out; simp; omega)
      have Z2 : ∀ i, w2.frozen? ⟨b0, i, none⟩ = false := fun i => (F2.frozen (p := ⟨b0, i, none⟩) (cell_lt (w := wr) (a := ⟨b0, 0, none⟩) x0) (by have := hgb.out; simp; omega)).trans (Zk.out i)
      clear x0 x1 x2 x3 x4 F2 hup
      rcases hcs with ⟨hnone, c, rfl⟩ | ⟨x, i, hsome, rfl, R2⟩
      · have hres : Hid (Sp.rf bs [true, true, true, true] K = none) := rf_cut (k := k + 1) (by rw [htk.out]; exact rf_t_none hrf.out hnone)
        have hq := nnil_c al c
        have hgd := guard_c al c
        have X2H : Hid (Bpg w2 b0 ⟨0, 0, 0, 0, []⟩ (.slice none 0 0)) := X2
        obtain ⟨x0, x1, x2, x3, x4⟩ := X2
        clear hnone
        go_wp2
        obtain ⟨z0, z1, z2, z3, z4⟩ := X2H.out.set ⟨0, 0, 0, 0, []⟩ (.slice none 0 0)
        refine bodyPost_ret (v := .tuple #[.agg #[.int .i64 0, .int .i64 0, .int .i64 0, .int .i64 0, .slice none 0 0], ek al c]) (by simp [results, Tryd.results31, go_sem, z0, z1, z2, z3, z4]) rfl ⟨?_, .inl ⟨hres.out, c, rfl⟩⟩
        exact (Fk.out.then F2H.out).trans (set5_fr w2 b0 _ _ _ _ _) fun k hk => .inr (by rw [hb0.out, hk]; exact Nat.le_refl _)
      · have hres : Hid (Sp.rf bs (List.take (k + 1) [true, true, true, true]) K = some (xs ++ [x], i)) := by show _ = _; rw [htk.out]; exact rf_t_some hrf.out hsome
        have A2 : Hid (Ar w2 (b0 + 1) 4 xs) := Ak.out.fr F2H.out (by have := hgb.out; simp; omega)
        have a2 := (A2.out k hlt).1
        have f2 := (A2.out k hlt).2
        have A3 : Hid (Ar (w2.setCell ⟨b0 + 1, k, none⟩ (.int .i64 (x : Int))) (b0 + 1) 4 (xs ++ [x])) := by rw [← hxl]; exact A2.out.set x
        have R3 : Hid (Rr R (w2.setCell ⟨b0 + 1, k, none⟩ (.int .i64 (x : Int))) g bs i) := R2.under (set_fr w2 (b0 + 1) k _) fun k _ h1 h2 => by have := hRH.out k h2; omega
        have F3 : Hid (Fr (fun k => k = g) w (w2.setCell ⟨b0 + 1, k, none⟩ (.int .i64 (x : Int)))) := (Fk.out.then F2H.out).trans (set_fr w2 (b0 + 1) k _) fun k hk => .inr (by rw [hb0.out, hk]; omega)
        have G3 : Hid (Fr (fun k => k = g ∨ k = b0 + 1) w1 (w2.setCell ⟨b0 + 1, k, none⟩ (.int .i64 (x : Int)))) := (Gk.out.trans F2H.out fun k hk => .inl (.inl hk)).trans (set_fr w2 (b0 + 1) k _) fun k hk => .inl (.inr hk)
        have hl2 : Hid ((xs ++ [x]).length = k + 1) := by simp [Hid, hxl]
        clear hsome R2 X2 Z2 A2
        go_wp2
        go_roundw
        case rel => exact ⟨k + 1, xs ++ [x], i, by omega, hl2.out, by go_num, hres, R3, A3, F3, G3⟩
        case measure => simp [intOf]; omega
    · have hlt' : decide ((k : Int) < 4) = false := decide_eq_false (by omega)
      have hk4 : k = 4 := by omega
      rw [hk4] at hrf
      have hres : Hid (Sp.rf bs [true, true, true, true] K = some (xs, j)) := hrf
      obtain ⟨a0, f0⟩ := Ak.out 0 (by decide)
      obtain ⟨a1, f1⟩ := Ak.out 1 (by decide)
      obtain ⟨a2, f2⟩ := Ak.out 2 (by decide)
      obtain ⟨a3, f3⟩ := Ak.out 3 (by decide)
      have XkH : Hid (Bpg wr b0 ⟨0, 0, 0, 0, []⟩ (.slice none 0 0)) := Xk
      have Z2 := Zk.out
      obtain ⟨x0, x1, x2, x3, x4⟩ := Xk
      obtain ⟨X0, e0⟩ : ∃ X, Hid (xs.getD 0 0 = X) := ⟨_, (rfl : _ = _)⟩
      obtain ⟨X1, e1⟩ : ∃ X, Hid (xs.getD 1 0 = X) := ⟨_, (rfl : _ = _)⟩
      obtain ⟨X2, e2⟩ : ∃ X, Hid (xs.getD 2 0 = X) := ⟨_, (rfl : _ = _)⟩
      obtain ⟨X3, e3⟩ : ∃ X, Hid (xs.getD 3 0 = X) := ⟨_, (rfl : _ = _)⟩
      rw [e0.out] at a0
      rw [e1.out] at a1
      rw [e2.out] at a2
      rw [e3.out] at a3
      clear hrf hk4 hk hlt hxl
      go_wp2
      obtain ⟨z0, z1, z2, z3, z4⟩ := XkH.out.set ⟨(X0 : Nat), (X1 : Nat), (X2 : Nat), (X3 : Nat), []⟩ (.slice none 0 0)
      refine bodyPost_ret (v := .tuple #[.agg #[.int .i64 (X0 : Nat), .int .i64 (X1 : Nat), .int .i64 (X2 : Nat), .int .i64 (X3 : Nat), .slice none 0 0], .nilIface]) (by simp [results, Tryd.results31, go_sem, z0, z1, z2, z3, z4]) rfl ⟨?_, .inr ⟨xs, j, hres.out, by rw [e0.out, e1.out, e2.out, e3.out], ?_⟩⟩
      · exact Fk.out.trans (set5_fr wr b0 _ _ _ _ _) fun k hk => .inr (by rw [hb0.out, hk]; exact Nat.le_refl _)
      · exact Rk.out.under (set5_fr wr b0 _ _ _ _ _) fun k _ h1 h2 => by have := hRH.out k h2; omega
end Go.Proofs.YtmlfichdfeblpaaDoor
