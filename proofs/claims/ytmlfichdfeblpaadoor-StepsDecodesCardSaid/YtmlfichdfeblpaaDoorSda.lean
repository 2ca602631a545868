/-
  timbreref15, reading: Decode.
-/
import Derived.Test.YtmlfichdfeblpaaDoorSd8
import Derived.Test.YtmlfichdfeblpaaDoorSr4
namespace Go.Proofs.YtmlfichdfeblpaaDoor
open Flo Go.RowKit
theorem rf_snoc {bs xs : List Nat} {b : List Bool} {k j x y : Nat} (h : Sp.rf bs b k = some (xs, j)) (h2 : Sp.rn bs 262144 j = some (x, y)) : Sp.rf bs (b ++ [true]) k = some (xs ++ [x], y) := rf_t_some h h2
def tr (k : Nat) : List Bool := List.replicate k true
theorem tr_succ (k : Nat) : tr (k + 1) = tr k ++ [true] := by unfold tr; rw [List.replicate_succ']
theorem tr_4 : tr 4 = [true, true, true, true] := rfl
theorem rn_less {bs : List Nat} {j : Nat} (h : Sp.rn bs 262144 j = none) : Sp.rn bs 65536 j = none := by
  unfold Sp.rn at *
  cases hr : Pk.rv 0 0 (bs.drop j) with
  | error c => rfl
  | ok p =>
    obtain ⟨x, n⟩ := p
    rw [hr] at h
    simp only at h ⊢
    by_cases hx : 262144 < x
    · rw [if_pos (by omega)]
    · rw [if_neg hx] at h; cases h
theorem rn_cut {bs : List Nat} {j x y : Nat} (h : Sp.rn bs 262144 j = some (x, y)) : Sp.rn bs 65536 j = if 65536 < x then none else some (x, y) := by
  unfold Sp.rn at *
  cases hr : Pk.rv 0 0 (bs.drop j) with
  | error c => rw [hr] at h; cases h
  | ok p =>
    obtain ⟨u, n⟩ := p
    rw [hr] at h
    simp only at h ⊢
    by_cases hx : 262144 < u
    · rw [if_pos hx] at h; cases h
    · rw [if_neg hx] at h
      injection h with h; injection h with h1 h2
      subst h1; subst h2; rfl
theorem rp_stop {bs xs : List Nat} {k j : Nat} (hk : k < 5) (h : Sp.rf bs (tr k) 0 = some (xs, j)) (h2 : Sp.rn bs 262144 j = none) : Sp.rp bs = none := by
  by_cases h4 : k = 4
  · subst h4
    exact rp_n2 (by rw [← tr_4]; exact h) (rn_less h2)
  · refine rp_n1 (rf_cut (k := k + 1) ?_)
    have e : [true, true, true, true].take (k + 1) = tr (k + 1) := by
      match k, hk, h4 with
      | 0, _, _ => rfl
      | 1, _, _ => rfl
      | 2, _, _ => rfl
      | 3, _, _ => rfl
      | 4, _, h => exact absurd rfl h
    rw [e, tr_succ]
    exact rf_t_none h h2
theorem rf_five {bs xs : List Nat} {j : Nat} (h : Sp.rf bs (tr 5) 0 = some (xs, j)) : ∃ (ys : List Nat) (x i : Nat), xs = ys ++ [x] ∧ Sp.rf bs [true, true, true, true] 0 = some (ys, i) ∧ Sp.rn bs 262144 i = some (x, j) := by
  rw [tr_succ, rf_app, tr_4] at h
  cases hr : Sp.rf bs [true, true, true, true] 0 with
  | none => rw [hr] at h; cases h
  | some p =>
    obtain ⟨ys, i⟩ := p
    rw [hr] at h
    simp only [Option.bind_some, Sp.rf] at h
    cases hn : Sp.rn bs 262144 i with
    | none => rw [hn] at h; cases h
    | some q =>
      obtain ⟨x, y⟩ := q
      rw [hn] at h
      simp at h
      exact ⟨ys, x, i, h.1.symm, rfl, by rw [hn, h.2]⟩
theorem rf_len {bs : List Nat} : ∀ (l : List Bool) (k : Nat) (xs : List Nat) (j : Nat), Sp.rf bs l k = some (xs, j) → xs.length = l.length
  | [], k, xs, j, h => by simp [Sp.rf] at h; rw [h.1]; rfl
  | false :: l, k, xs, j, h => by
    simp only [Sp.rf] at h
    cases hr : Sp.rf bs l k with
    | none => rw [hr] at h; cases h
    | some p => rw [hr] at h; simp at h; rw [← h.1, List.length_cons, rf_len l k p.1 p.2 hr, List.length_cons]
  | true :: l, k, xs, j, h => by
    simp only [Sp.rf] at h
    cases hn : Sp.rn bs 262144 k with
    | none => rw [hn] at h; cases h
    | some q =>
      rw [hn] at h
      simp only [Option.bind_some] at h
      cases hr : Sp.rf bs l q.2 with
      | none => rw [hr] at h; cases h
      | some p => rw [hr] at h; simp at h; rw [← h.1, List.length_cons, rf_len l q.2 p.1 p.2 hr, List.length_cons]
/-- the head as far as it is read -/
def hd5 (xs : List Nat) : Sp.Pg := ⟨xs.getD 0 0, xs.getD 1 0, xs.getD 2 0, xs.getD 3 0, []⟩
theorem Bpf.setH {w : World} {b : Nat} {xs : List Nat} {v : Value} (h : Bpf w b (hd5 xs) v) (x : Nat) (hx : xs.length < 4) : Bpf (w.setCell ⟨b, xs.length, none⟩ (.int .i64 (x : Int))) b (hd5 (xs ++ [x])) v := by
  obtain ⟨⟨c0, c1, c2, c3, c4⟩, fz⟩ := h
  refine ⟨?_, fun j => by rw [World.frozen?_setCell]; exact fz j⟩
  match xs, hx with
  | [], _ => simp [hd5] at c0 c1 c2 c3 c4; constructor <;> simp [hd5, World.cell?_setCell_other, World.cell?_setCell_same, c0, c1, c2, c3, c4]
  | [a], _ => simp [hd5] at c0 c1 c2 c3 c4; constructor <;> simp [hd5, World.cell?_setCell_other, World.cell?_setCell_same, c0, c1, c2, c3, c4]
  | [a, b], _ => simp [hd5] at c0 c1 c2 c3 c4; constructor <;> simp [hd5, World.cell?_setCell_other, World.cell?_setCell_same, c0, c1, c2, c3, c4]
  | [a, b, c], _ => simp [hd5] at c0 c1 c2 c3 c4; constructor <;> simp [hd5, World.cell?_setCell_other, World.cell?_setCell_same, c0, c1, c2, c3, c4]
theorem Bpf.cellH {w : World} {b : Nat} {xs : List Nat} {v : Value} (h : Bpf w b (hd5 xs) v) {k : Nat} (hk : k < 4) : ∃ z : Int, w.cell? ⟨b, k, none⟩ = some (.int .i64 z) := by
  obtain ⟨⟨c0, c1, c2, c3, c4⟩, fz⟩ := h
  match k, hk with
  | 0, _ => exact ⟨_, c0⟩
  | 1, _ => exact ⟨_, c1⟩
  | 2, _ => exact ⟨_, c2⟩
  | 3, _ => exact ⟨_, c3⟩
/-- while the head is read -/
structure DH (R : Nat → Prop) (g b0 b1 bn bl : Nat) (bs : List Nat) (w wx : World) (xs : List Nat) (j : Nat) : Prop where
  rr : Rs R wx g bs j
  x : Bpf wx b0 ⟨0, 0, 0, 0, []⟩ (.slice none 0 0)
  y : Bpf wx b1 (hd5 xs) (.slice none 0 0)
  n0 : wx.cell? ⟨bn, 0, none⟩ = some (.int .i64 (xs.getD 4 0 : Nat))
  nf : wx.frozen? ⟨bn, 0, none⟩ = false
  p0 : ∀ k, k < 4 → wx.cell? ⟨bl, k, none⟩ = some (.pointer (some ⟨b1, k, none⟩))
  p4 : wx.cell? ⟨bl, 4, none⟩ = some (.pointer (some ⟨bn, 0, none⟩))
  be : Below w.heap.size w wx
section
variable {R : Nat → Prop} {g b0 b1 bn bl j : Nat} {bs xs : List Nat} {w wx wy : World}
/-- the blocks' order -/
def DB (R : Nat → Prop) (w : World) (g b0 b1 bn bl : Nat) : Prop := w.heap.size = b0 ∧ b0 < g ∧ g < b1 ∧ b1 < bn ∧ bn < bl ∧ ∀ k, R k → k = g ∨ k < b0
theorem DH.fr (h : DH R g b0 b1 bn bl bs w wx xs j) (hB : DB R w g b0 b1 bn bl) (hf : Fr (fun k => k = g) wx wy) {i : Nat} (hr : Rs R wy g bs i) : DH R g b0 b1 bn bl bs w wy xs i := by
  obtain ⟨h1, h2, h3, h4, h5, h6⟩ := hB
  exact ⟨hr, h.x.fr hf (by omega), h.y.fr hf (by omega), hf.cell h.n0 (by simp; omega), (hf.frozen (p := ⟨bn, 0, none⟩) (cell_lt h.n0) (by simp; omega)).trans h.nf, fun k hk => hf.cell (h.p0 k hk) (by simp; omega), hf.cell h.p4 (by simp; omega), hf.below h.be h.be.size fun k _ hk => by omega⟩
theorem DH.set (h : DH R g b0 b1 bn bl bs w wx xs j) (hB : DB R w g b0 b1 bn bl) (x : Nat) (hx : xs.length < 4) : DH R g b0 b1 bn bl bs w (wx.setCell ⟨b1, xs.length, none⟩ (.int .i64 (x : Int))) (xs ++ [x]) j := by
  obtain ⟨h1, h2, h3, h4, h5, h6⟩ := hB
  have f := set_fr wx b1 xs.length (.int .i64 (x : Int))
  have e : (xs ++ [x]).getD 4 0 = xs.getD 4 0 := by
    rw [List.getD_eq_getElem?_getD, List.getD_eq_getElem?_getD, List.getElem?_eq_none (by simp; omega), List.getElem?_eq_none (by omega)]
  exact ⟨h.rr.under f fun k _ hk hr => by have := h6 k hr; omega, h.x.fr f (by omega), h.y.setH x hx, by rw [e]; exact f.cell h.n0 (by simp; omega), (f.frozen (p := ⟨bn, 0, none⟩) (cell_lt h.n0) (by simp; omega)).trans h.nf, fun k hk => f.cell (h.p0 k hk) (by simp; omega), f.cell h.p4 (by simp; omega), f.below h.be h.be.size fun k _ hk => by omega⟩
theorem DH.set4 (h : DH R g b0 b1 bn bl bs w wx xs j) (hB : DB R w g b0 b1 bn bl) (x : Nat) (hx : xs.length = 4) : DH R g b0 b1 bn bl bs w (wx.setCell ⟨bn, 0, none⟩ (.int .i64 (x : Int))) (xs ++ [x]) j := by
  obtain ⟨h1, h2, h3, h4, h5, h6⟩ := hB
  have f := set_fr wx bn 0 (.int .i64 (x : Int))
  have e : (xs ++ [x]).getD 4 0 = x := by rw [← hx]; simp
  have e2 : hd5 (xs ++ [x]) = hd5 xs := by
    match xs, hx with
    | [a, b, c, d], _ => rfl
  exact ⟨h.rr.under f fun k _ hk hr => by have := h6 k hr; omega, h.x.fr f (by omega), by rw [e2]; exact h.y.fr f (by omega), by rw [e]; exact World.cell?_setCell_same _ _ _ h.n0, by rw [World.frozen?_setCell]; exact h.nf, fun k hk => f.cell (h.p0 k hk) (by simp; omega), f.cell h.p4 (by simp; omega), f.below h.be h.be.size fun k _ hk => by omega⟩
theorem DH.ret (h : DH R g b0 b1 bn bl bs w wx xs j) (hB : DB R w g b0 b1 bn bl) (a0 a1 a2 a3 a4 : Value) : Below w.heap.size w (((((wx.setCell ⟨b0, 0, none⟩ a0).setCell ⟨b0, 1, none⟩ a1).setCell ⟨b0, 2, none⟩ a2).setCell ⟨b0, 3, none⟩ a3).setCell ⟨b0, 4, none⟩ a4) :=
  (set5_fr wx b0 _ _ _ _ _).below h.be h.be.size fun k _ hk => by rw [hB.1]; omega
end
/-- while the steps are read -/
structure DQ (R : Nat → Prop) (g b0 b1 bn bl : Nat) (bs : List Nat) (w wx : World) (hd : Sp.Pg) (cnt B : Nat) (v : Value) (ss : List Sp.St) (j : Nat) : Prop where
  rr : Rs R wx g bs j
  x : Bpf wx b0 ⟨0, 0, 0, 0, []⟩ (.slice none 0 0)
  y : Bpf wx b1 hd v
  n0 : wx.cell? ⟨bn, 0, none⟩ = some (.int .i64 (cnt : Int))
  ow : OwS wx B v ss
  be : Below w.heap.size w wx
  bb : bn < B ∧ B ≤ wx.heap.size
section
variable {R : Nat → Prop} {g b0 b1 bn bl j cnt B : Nat} {bs : List Nat} {w wx wy : World} {hd : Sp.Pg} {v : Value} {ss : List Sp.St}
theorem DQ.row (h : DQ R g b0 b1 bn bl bs w wx hd cnt B v ss j) : ∀ b, v.ownBlock = some b → B ≤ b ∧ b < wx.heap.size := fun b hb => World.ownsRow.lt h.ow b hb
theorem DQ.call (h : DQ R g b0 b1 bn bl bs w wx hd cnt B v ss j) (hB : DB R w g b0 b1 bn bl) (hf : Fr (fun k => k = g) wx wy) {i : Nat} (hr : Rs R wy g bs i) : DQ R g b0 b1 bn bl bs w wy hd cnt B v ss i := by
  obtain ⟨h1, h2, h3, h4, h5, h6⟩ := hB
  have hb := h.bb
  exact ⟨hr, h.x.fr hf (by omega), h.y.fr hf (by omega), hf.cell h.n0 (by simp; omega), h.ow.fr hf fun b hb => by have := (h.row b hb).1; omega, hf.below h.be h.be.size fun k _ hk => by omega, ⟨hb.1, Nat.le_trans hb.2 hf.size⟩⟩
theorem DQ.new (h : DQ R g b0 b1 bn bl bs w wx hd cnt B v ss j) (hB : DB R w g b0 b1 bn bl) (o : Obj) : DQ R g b0 b1 bn bl bs w (wx.alloc o) hd cnt B v ss j :=
  h.call hB (fr_new _ _ _) (h.rr.under (fr_new (fun _ => False) wx o) fun _ _ h => h.elim)
theorem DQ.push (h : DQ R g b0 b1 bn bl bs w wx hd cnt B v ss j) (hB : DB R w g b0 b1 bn bl) {v' : Value} {ss' : List Sp.St} (ho : OwS wy B v' ss') (hg : wx.grownBy wy v.ownBlock) (hn : ∀ b, v'.ownBlock = some b → v.ownBlock = some b ∨ wx.heap.size ≤ b) :
    Bpf wy b1 hd v ∧ DQ R g b0 b1 bn bl bs w (wy.setCell ⟨b1, 4, none⟩ v') hd cnt B v' ss' j := by
  obtain ⟨h1, h2, h3, h4, h5, h6⟩ := hB
  have f1 : Fr (fun k => v.ownBlock = some k) wx wy := (Fr.refl _ wx).grown hg fun _ hk => hk
  have hbb := h.bb
  have nb : ∀ k, k < B → ¬ v.ownBlock = some k := fun k hk e => by have := (h.row _ e).1; omega
  have y1 := h.y.fr f1 (nb _ (by omega))
  have f2 := set_fr wy b1 4 v'
  have hlt : b1 < wx.heap.size := by omega
  refine ⟨y1, ⟨?_, ?_, y1.set4 v', ?_, ?_, ?_, ⟨hbb.1, ?_⟩⟩⟩
  · exact (h.rr.under f1 fun k _ a1 a2 => by have := (h.row _ a1).1; have := h6 k a2; omega).under f2 fun k _ a1 a2 => by have := h6 k a2; omega
  · exact (h.x.fr f1 (nb _ (by omega))).fr f2 (by omega)
  · exact f2.cell (f1.cell h.n0 (nb _ (by simp; omega))) (by simp; omega)
  · refine OwS.fr ho f2 fun b hb => ?_
    rcases hn b hb with a1 | a1
    · have := (h.row _ a1).1; omega
    · omega
  · exact f2.below (f1.below h.be h.be.size fun k _ hk => by have := (h.row _ hk).1; omega) (Nat.le_trans h.be.size f1.size) fun k _ hk => by omega
  · have := hg.size
    have h3 := f2.size
    omega
theorem DQ.ret (h : DQ R g b0 b1 bn bl bs w wx hd cnt B v ss j) (hB : DB R w g b0 b1 bn bl) (a0 a1 a2 a3 a4 : Value) : Below w.heap.size w (((((wx.setCell ⟨b0, 0, none⟩ a0).setCell ⟨b0, 1, none⟩ a1).setCell ⟨b0, 2, none⟩ a2).setCell ⟨b0, 3, none⟩ a3).setCell ⟨b0, 4, none⟩ a4) :=
  (set5_fr wx b0 _ _ _ _ _).below h.be h.be.size fun k _ hk => by rw [hB.1]; omega
end
/-- what Decode tells, by the document -/
def DdE (bs : List Nat) (w : World) (e : Ending) (w' : World) : Prop :=
  Below w.heap.size w w' ∧ ((Sp.rw_ bs = none ∧ e = .returned (.tuple #[zp, .int .i64 9])) ∨
    ∃ (p : Sp.Pg) (v : Value), Sp.rw_ bs = some p ∧ e = .returned (.tuple #[pv p v, .int .i64 0]) ∧ OwS w' w.heap.size v p.steps)
def RR (w : World) (k : Nat) : Prop := k = w.heap.size + 1 ∨ k < w.heap.size
theorem dh_new (w : World) (v : Value) (bs : List Nat) (hin : InB w v bs) (hv : ∀ (a : Addr) (n c : Nat), bs ≠ [] → v = .slice (some a) n c → a.block < w.heap.size) :
    DH (RR w) (w.heap.size + 1) w.heap.size (w.heap.size + 1 + 1) (w.heap.size + 1 + 1 + 1) (w.heap.size + 1 + 1 + 1 + 1) bs w (((((w.alloc (.cells #[.int .i64 0, .int .i64 0, .int .i64 0, .int .i64 0, .slice none 0 0] 26)).alloc (.cells #[v, .int .i64 0] 50)).alloc (.cells #[.int .i64 0, .int .i64 0, .int .i64 0, .int .i64 0, .slice none 0 0] 26)).alloc (.cells #[.int .i64 0] 3)).alloc (.cells #[.pointer (some ⟨w.heap.size + 1 + 1, 0, none⟩), .pointer (some ⟨w.heap.size + 1 + 1, 1, none⟩), .pointer (some ⟨w.heap.size + 1 + 1, 2, none⟩), .pointer (some ⟨w.heap.size + 1 + 1, 3, none⟩), .pointer (some ⟨w.heap.size + 1 + 1 + 1, 0, none⟩)] 51)) [] 0 := by
  have fA : ∀ o, Fr (fun _ => False) w (w.alloc o) := fun o => fr_new _ _ _
  obtain ⟨wA, eA⟩ : ∃ wA, wA = w.alloc (.cells #[.int .i64 0, .int .i64 0, .int .i64 0, .int .i64 0, .slice none 0 0] 26) := ⟨_, rfl⟩
  have sA : wA.heap.size = w.heap.size + 1 := by rw [eA]; simp
  have xA : Bpf wA w.heap.size ⟨0, 0, 0, 0, []⟩ (.slice none 0 0) := by rw [eA]; exact Bpf.new w ⟨0, 0, 0, 0, []⟩ _
  have bA : Below w.heap.size w wA := by rw [eA]; exact (Below.refl _ _).alloc (Nat.le_refl _) _
  obtain ⟨wB, eB⟩ : ∃ wB, wB = wA.alloc (.cells #[v, .int .i64 0] 50) := ⟨_, rfl⟩
  have sB : wB.heap.size = w.heap.size + 1 + 1 := by rw [eB]; simp [sA]
  have bB : Below w.heap.size w wB := by rw [eB]; exact bA.alloc bA.size _
  have rB : Rs (RR w) wB (w.heap.size + 1) bs 0 := by
    refine ⟨v, by rw [eB, ← sA]; simp, by rw [eB, ← sA]; simp, by rw [eB, ← sA]; simp, hin.below bB, ?_, .inl rfl, ?_, Nat.zero_le _⟩
    · intro hne a n c e
      have := hv a n c hne e
      omega
    · intro hne a n c e
      exact .inr (hv a n c hne e)
  obtain ⟨wC, eC⟩ : ∃ wC, wC = wB.alloc (.cells #[.int .i64 0, .int .i64 0, .int .i64 0, .int .i64 0, .slice none 0 0] 26) := ⟨_, rfl⟩
  have sC : wC.heap.size = w.heap.size + 1 + 1 + 1 := by rw [eC]; simp [sB]
  have yC : Bpf wC (w.heap.size + 1 + 1) (hd5 []) (.slice none 0 0) := by rw [eC, ← sB]; exact Bpf.new wB (hd5 []) _
  have bC : Below w.heap.size w wC := by rw [eC]; exact bB.alloc bB.size _
  obtain ⟨wD, eD⟩ : ∃ wD, wD = wC.alloc (.cells #[.int .i64 0] 3) := ⟨_, rfl⟩
  have sD : wD.heap.size = w.heap.size + 1 + 1 + 1 + 1 := by rw [eD]; simp [sC]
  have nD : wD.cell? ⟨w.heap.size + 1 + 1 + 1, 0, none⟩ = some (.int .i64 0) := by rw [eD, ← sC]; simp
  have fD : wD.frozen? ⟨w.heap.size + 1 + 1 + 1, 0, none⟩ = false := by rw [eD, ← sC]; simp
  have bD : Below w.heap.size w wD := by rw [eD]; exact bC.alloc bC.size _
  rw [← eA, ← eB, ← eC, ← eD]
  obtain ⟨wE, eE⟩ : ∃ wE, wE = wD.alloc (.cells #[.pointer (some ⟨w.heap.size + 1 + 1, 0, none⟩), .pointer (some ⟨w.heap.size + 1 + 1, 1, none⟩), .pointer (some ⟨w.heap.size + 1 + 1, 2, none⟩), .pointer (some ⟨w.heap.size + 1 + 1, 3, none⟩), .pointer (some ⟨w.heap.size + 1 + 1 + 1, 0, none⟩)] 51) := ⟨_, rfl⟩
  rw [← eE]
  have f4 : Fr (fun _ => False) wD wE := by rw [eE]; exact fr_new _ _ _
  have f3 : Fr (fun _ => False) wC wE := Fr.then (by rw [eD]; exact fr_new _ _ _) f4
  have f2 : Fr (fun _ => False) wB wE := Fr.then (by rw [eC]; exact fr_new _ _ _) f3
  have f1 : Fr (fun _ => False) wA wE := Fr.then (by rw [eB]; exact fr_new _ _ _) f2
  refine ⟨rB.under f2 fun _ _ h => h.elim, xA.fr f1 id, yC.fr f3 id, f4.cell nD id, (f4.frozen (p := ⟨w.heap.size + 1 + 1 + 1, 0, none⟩) (cell_lt nD) id).trans fD, ?_, ?_, ?_⟩
  · intro k hk
    rw [eE, ← sD]
    match k, hk with
    | 0, _ => simp
    | 1, _ => simp
    | 2, _ => simp
    | 3, _ => simp
  · rw [eE, ← sD]; simp
  · rw [eE]; exact bD.alloc bD.size _
theorem db_new (w : World) : DB (RR w) w (w.heap.size + 1) w.heap.size (w.heap.size + 1 + 1) (w.heap.size + 1 + 1 + 1) (w.heap.size + 1 + 1 + 1 + 1) := ⟨rfl, by omega, by omega, by omega, by omega, fun k h => h⟩
set_option maxHeartbeats 8000000 in
set_option maxRecDepth 100000 in
theorem ddecode_c (v : Value) (bs : List Nat) (w : World) (hin : InB w v bs) (hv : ∀ (a : Addr) (n c : Nat), bs ≠ [] → v = .slice (some a) n c → a.block < w.heap.size) :
    Calls Tryd.prog 6 #[v] w fun e w' => DdE bs w e w' := by
  have H1 := dh_new w v bs hin hv
  have HB := db_new w
  obtain ⟨n, ao, cap, rfl, hnn⟩ := hin.src.slice
  clear hin hv
  obtain ⟨R, hR⟩ := hid_ex (RR w)
  rw [hR.out] at H1 HB
  obtain ⟨bl, hbl⟩ := hid_ex (w.heap.size + 1 + 1 + 1 + 1)
  obtain ⟨bn, hbn⟩ := hid_ex (w.heap.size + 1 + 1 + 1)
  obtain ⟨b1, hb1⟩ := hid_ex (w.heap.size + 1 + 1)
  obtain ⟨g, hg⟩ := hid_ex (w.heap.size + 1)
  obtain ⟨w1, ew1⟩ := hid_ex ((((((w.alloc (.cells #[.int .i64 0, .int .i64 0, .int .i64 0, .int .i64 0, .slice none 0 0] 26)).alloc (.cells #[.slice ao n cap, .int .i64 0] 50)).alloc (.cells #[.int .i64 0, .int .i64 0, .int .i64 0, .int .i64 0, .slice none 0 0] 26)).alloc (.cells #[.int .i64 0] 3)).alloc (.cells #[.pointer (some ⟨w.heap.size + 1 + 1, 0, none⟩), .pointer (some ⟨w.heap.size + 1 + 1, 1, none⟩), .pointer (some ⟨w.heap.size + 1 + 1, 2, none⟩), .pointer (some ⟨w.heap.size + 1 + 1, 3, none⟩), .pointer (some ⟨w.heap.size + 1 + 1 + 1, 0, none⟩)] 51)) : World)
  rw [ew1.out, hbl.out, hbn.out, hb1.out, hg.out] at H1
  rw [hbl.out, hbn.out, hb1.out, hg.out] at HB
  obtain ⟨b0, hb0⟩ := hid_ex w.heap.size
  have hDB : Hid (DB R w g b0 b1 bn bl) := by rw [← hb0.out]; exact HB
  have S1 : Hid (DH R g b0 b1 bn bl bs w w1 [] 0) := by rw [← hb0.out]; exact H1
  clear H1 HB
  go_enter Tryd.func6, Tryd.ntmps6
  go_wp2
  rw [ew1.out, hbl.out, hbn.out, hb1.out, hg.out, hb0.out]
  clear ew1 hbl hbn hb1 hg
  go_loopw [25] (fun i wr => ∃ (k : Nat) (xs : List Nat) (j : Nat), k ≤ 5 ∧ xs.length = k ∧ i = .int .i64 k ∧ Hid (Sp.rf bs (tr k) 0 = some (xs, j)) ∧ Hid (DH R g b0 b1 bn bl bs w wr xs j)) (fun i _ => 5 - (intOf i).toNat)
  case atStart => exact ⟨0, [], 0, by decide, rfl, rfl, (rfl : _ = _), S1⟩
  case round =>
    obtain ⟨k, xs, j, hk, hxl, rfl, hrf, Sk⟩ := hrel
    by_cases hlt : k < 5
    · have hlt' : (k : Int) < 5 := by omega
      have hup : Hid (Calls Tryd.prog 17 #[.pointer (some ⟨g, 0, none⟩), .int .i64 262144] wr fun e w' => DuE bs 262144 j R g wr e w') := drn_c R g j 262144 bs wr Sk.out.rr (by decide)
      obtain ⟨pt, hpt, hpc⟩ : ∃ pt : Addr, (pt = if k < 4 then ⟨b1, k, none⟩ else ⟨bn, 0, none⟩) ∧ wr.cell? ⟨bl, k, none⟩ = some (.pointer (some pt)) := by
        by_cases h4 : k < 4
        · exact ⟨_, rfl, by rw [if_pos h4]; exact Sk.out.p0 k h4⟩
        · have h5 : k = 4 := by omega
          exact ⟨_, rfl, by rw [if_neg h4, h5]; exact Sk.out.p4⟩
      have hptH : Hid (pt = if k < 4 then ⟨b1, k, none⟩ else ⟨bn, 0, none⟩) := hpt
      clear hpt
      go_wp2_with fail
      refine hup.out.mono ?_
      rintro e w5 ⟨F5, hcs⟩
      clear hup hpc
      rcases hcs with ⟨hnone, R5, c, rfl⟩ | ⟨x, i, hsome, rfl, R5⟩
      · have hres : Hid (Sp.rw_ bs = none) := rw_n1 (rp_stop hlt hrf.out hnone)
        have e1 : (((c + 1 : Nat) : Int) != 0) = true := by rw [bne_iff_ne]; omega
        have S5 : Hid (DH R g b0 b1 bn bl bs w w5 xs j) := Sk.out.fr hDB.out F5 R5
        generalize ((c + 1 : Nat) : Int) = C at e1
        clear hnone F5 R5 Sk
        obtain ⟨x0, x1, x2, x3, x4⟩ := S5.out.x.bx
        have Zx := S5.out.x.fz
        go_wp2
        obtain ⟨z0, z1, z2, z3, z4⟩ := S5.out.x.bx.set ⟨0, 0, 0, 0, []⟩ (.slice none 0 0)
        refine bodyPost_ret (v := .tuple #[zp, .int .i64 9]) (by unfold zp; simp [results, Tryd.results6, go_sem, z0, z1, z2, z3, z4]) rfl ⟨S5.out.ret hDB.out _ _ _ _ _, .inl ⟨hres.out, rfl⟩⟩
      · have S5 : Hid (DH R g b0 b1 bn bl bs w w5 xs i) := Sk.out.fr hDB.out F5 R5
        have hr2 : Hid (Sp.rf bs (tr (k + 1)) 0 = some (xs ++ [x], i)) := by show _ = _; rw [tr_succ]; exact rf_t_some hrf.out hsome
        have hl2 : Hid ((xs ++ [x]).length = k + 1) := by simp [Hid, hxl]
        clear hsome F5 R5 Sk
        by_cases h4 : k < 4
        · have hp := hptH.out
          rw [if_pos h4] at hp
          subst hp
          have S6 : Hid (DH R g b0 b1 bn bl bs w (w5.setCell ⟨b1, k, none⟩ (.int .i64 (x : Int))) (xs ++ [x]) i) := by have h9 := S5.out.set hDB.out x (by omega); rw [hxl] at h9; exact h9
          obtain ⟨z, hz⟩ := S5.out.y.cellH h4
          have fz := S5.out.y.fz k
          go_wp2
          go_roundw
          case rel => exact ⟨k + 1, xs ++ [x], i, by omega, hl2.out, by go_num, hr2, S6⟩
          case measure => simp [intOf]; omega
        · have hp := hptH.out
          rw [if_neg h4] at hp
          subst hp
          have S6 : Hid (DH R g b0 b1 bn bl bs w (w5.setCell ⟨bn, 0, none⟩ (.int .i64 (x : Int))) (xs ++ [x]) i) := S5.out.set4 hDB.out x (by omega)
          have hz := S5.out.n0
          have fz := S5.out.nf
          go_wp2
          go_roundw
          case rel => exact ⟨k + 1, xs ++ [x], i, by omega, hl2.out, by go_num, hr2, S6⟩
          case measure => simp [intOf]; omega
    · have hlt' : decide ((k : Int) < 5) = false := decide_eq_false (by omega)
      have hk5 : k = 5 := by omega
      obtain ⟨ys, cnt, i4, hxs, hf4, hn4⟩ := rf_five (bs := bs) (xs := xs) (j := j) (by rw [← hk5]; exact hrf.out)
      have hyl : ys.length = 4 := by have := rf_len _ _ _ _ hf4; simpa using this
      have hcnt : xs.getD 4 0 = cnt := by rw [hxs, ← hyl]; simp
      have hh5 : Hid (hd5 xs = hd5 ys) := by
        show _ = _
        rw [hxs]
        match ys, hyl with
        | [a, b, c, d], _ => rfl
      have hn0 := Sk.out.n0
      rw [hcnt] at hn0
      have hf4H : Hid (Sp.rf bs [true, true, true, true] 0 = some (ys, i4)) := hf4
      have hcut : Hid (Sp.rn bs 65536 i4 = if 65536 < cnt then none else some (cnt, j)) := rn_cut hn4
      have hc26 : cnt ≤ 262144 := rn_lt hn4
      have hn0H : Hid (wr.cell? ⟨bn, 0, none⟩ = some (.int .i64 (cnt : Int))) := hn0
      clear hf4 hn4 hrf hxs hcnt hxl hyl hk5
      by_cases hbig : 65536 < cnt
      · have hres : Hid (Sp.rw_ bs = none) := rw_n1 (rp_n2 hf4H.out (by rw [hcut.out, if_pos hbig]))
        have hb' : (65536 : Int) < (cnt : Int) := by omega
        obtain ⟨x0, x1, x2, x3, x4⟩ := Sk.out.x.bx
        have Zx := Sk.out.x.fz
        go_wp2
        obtain ⟨z0, z1, z2, z3, z4⟩ := Sk.out.x.bx.set ⟨0, 0, 0, 0, []⟩ (.slice none 0 0)
        refine bodyPost_ret (v := .tuple #[zp, .int .i64 9]) (by unfold zp; simp [results, Tryd.results6, go_sem, z0, z1, z2, z3, z4]) rfl ⟨Sk.out.ret hDB.out _ _ _ _ _, .inl ⟨hres.out, rfl⟩⟩
      · have hb' : decide ((65536 : Int) < (cnt : Int)) = false := decide_eq_false (by omega)
        have hcH : Hid (Sp.rn bs 65536 i4 = some (cnt, j)) := by show _ = _; rw [hcut.out, if_neg hbig]
        have hcn : cnt ≤ 65536 := by omega
        have Q0 : Hid (DQ R g b0 b1 bn bl bs w wr (hd5 ys) cnt wr.heap.size (.slice none 0 0) [] j) :=
          ⟨Sk.out.rr, Sk.out.x, by rw [← hh5.out]; exact Sk.out.y, hn0H.out, World.ownsRow_nil _ _ _ _, Sk.out.be, ⟨cell_lt hn0H.out, Nat.le_refl _⟩⟩
        clear hcut Sk hh5 hn0H hc26
        obtain ⟨hd, hhd⟩ := hid_ex (hd5 ys)
        rw [hhd.out] at Q0
        go_wp2
        clear hn0
        go_loopw [11] (fun i wr => ∃ (k B : Nat) (v : Value) (ss : List Sp.St) (j' : Nat), k ≤ cnt ∧ ss.length = k ∧ i = .int .i64 k ∧ Hid (Sp.rss bs k j = some (ss, j')) ∧ Hid (DQ R g b0 b1 bn bl bs w wr hd cnt B v ss j')) (fun i _ => cnt - (intOf i).toNat)
        case atStart => exact ⟨0, _, _, [], j, Nat.zero_le _, rfl, rfl, (rfl : _ = _), Q0⟩
        case round =>
          obtain ⟨k, B, v, ss, j', hk, hsl, rfl, hrs, Qk⟩ := hrel
          have hn0 := Qk.out.n0
          by_cases hlt2 : k < cnt
          · have hlt3 : (k : Int) < (cnt : Int) := by omega
            have hst : Hid (Calls Tryd.prog 18 #[.pointer (some ⟨g, 0, none⟩)] wr fun e w' => DsE bs j' R g wr e w') := dstep_c R g j' bs wr Qk.out.rr (fun k hk => by have h1 := hDB.out.2.2.2.2.2 k hk; have h2 := hDB.out; have h3 := Qk.out.bb; unfold DB at h2; omega)
            go_wp2_with fail
            refine hst.out.mono ?_
            rintro e w5 ⟨F5, hcs⟩
            have F5H : Hid (Fr (fun k => k = g) wr w5) := F5
            clear F5 hst hn0
            rcases hcs with ⟨hnone, s, rfl⟩ | ⟨s, i, hsome, rfl, R5⟩
            · have hres : Hid (Sp.rw_ bs = none) := rw_n1 (rp_n3 hf4H.out hcH.out (rss_stop hlt2 hrs.out hnone))
              obtain ⟨w6, ew6⟩ : ∃ wa, Hid (w5.alloc (.cells #[.int .i64 s.op, .int .i64 s.dst, .int .i64 s.src, .int .i64 s.jump, .int .i64 s.count, .int .i64 s.n, .int .i64 s.k] 36) = wa) := ⟨_, (rfl : _ = _)⟩
              have hgb : Hid (¬ b0 = g ∧ w.heap.size ≤ g) := by have h2 := hDB.out; unfold DB at h2; exact ⟨by omega, by omega⟩
              have F6 : Hid (Fr (fun k => k = g) wr w6) := by rw [← ew6.out]; exact F5H.out.up (fr_new _ _ _)
              have X6 : Hid (Bpf w6 b0 ⟨0, 0, 0, 0, []⟩ (.slice none 0 0)) := Qk.out.x.fr F6.out hgb.out.1
              have B6 : Hid (Below w.heap.size w w6) := F6.out.below Qk.out.be Qk.out.be.size fun k _ hk => by have := hgb.out.2; omega
              clear hnone
              unfold sv sva
              go_upto_region 18 with fail
              rw [ew6.out]
              obtain ⟨x0, x1, x2, x3, x4⟩ := X6.out.bx
              have Zx := X6.out.fz
              go_wp2
              obtain ⟨z0, z1, z2, z3, z4⟩ := X6.out.bx.set ⟨0, 0, 0, 0, []⟩ (.slice none 0 0)
              refine bodyPost_ret (v := .tuple #[zp, .int .i64 9]) (by unfold zp; simp [results, Tryd.results6, go_sem, z0, z1, z2, z3, z4]) rfl ⟨?_, .inl ⟨hres.out, rfl⟩⟩
              exact (set5_fr w6 b0 _ _ _ _ _).below B6.out B6.out.size fun k _ hk => by rw [hb0.out]; omega
            · have hrs2 : Hid (Sp.rss bs (k + 1) j = some (ss ++ [s], i)) := rss_snoc hrs.out hsome
              have hl2 : Hid ((ss ++ [s]).length = k + 1) := by simp [Hid, hsl]
              have Q5 : DQ R g b0 b1 bn bl bs w w5 hd cnt B v ss i := Qk.out.call hDB.out F5H.out R5
              obtain ⟨w6, ew6⟩ : ∃ wa, Hid (w5.alloc (.cells #[.int .i64 s.op, .int .i64 s.dst, .int .i64 s.src, .int .i64 s.jump, .int .i64 s.count, .int .i64 s.n, .int .i64 s.k] 36) = wa) := ⟨_, (rfl : _ = _)⟩
              obtain ⟨b2, hb2⟩ : ∃ b, Hid (w5.heap.size = b) := ⟨_, (rfl : _ = _)⟩
              have Q6 : Hid (DQ R g b0 b1 bn bl bs w w6 hd cnt B v ss i) := by rw [← ew6.out]; exact Q5.new hDB.out _
              have Y6 : Hid (Bst w6 b2 s.op s.dst s.src s.jump s.count s.n s.k) := by show Bst _ _ _ _ _ _ _ _ _; rw [← ew6.out, ← hb2.out]; exact Bst.new w5 _ _ _ _ _ _ _
              have Q7 : Hid (∀ o, DQ R g b0 b1 bn bl bs w (w6.alloc o) hd cnt B v ss i) := fun o => Q6.out.new hDB.out o
              have C7 : Hid (SAt (w6.alloc (.cells #[.int .i64 s.op, .int .i64 s.dst, .int .i64 s.src, .int .i64 s.jump, .int .i64 s.count, .int .i64 s.n, .int .i64 s.k] 36)) w6.heap.size 0 s) := ⟨by simp, by simp, by simp, by simp, by simp, by simp, by simp⟩
              clear hsome R5 Q5
              unfold sv sva
              go_upto_region 18 with fail
              rw [ew6.out, hb2.out]
              obtain ⟨y0, y1, y2, y3, y4, y5, y6⟩ := Y6.out
              have v4 := Q6.out.y.bx.c4
              have hkb : Hid ((ss.length + 1) * 56 ≤ 140737488355328) := by show _ ≤ _; omega
              go_wp2_with (first | (at_builtin; refine appSt _ rfl _ _ rfl B ss s w6.heap.size v rfl rfl (Q7.out _).ow C7.out hkb.out (Q7.out _).bb.2 ?_) | fail)
              intro v' w8 ho hgr hn
              obtain ⟨yb, hS8⟩ := (Q7.out _).push hDB.out ho hgr (by simpa using hn)
              have hS8H : Hid (DQ R g b0 b1 bn bl bs w (w8.setCell ⟨b1, 4, none⟩ v') hd cnt B v' (ss ++ [s]) i) := hS8
              have v8 := yb.bx.c4
              have f8 := yb.fz 4
              obtain ⟨ao', cap', hv'⟩ := owns_slice ho
              rw [hl2.out] at hv'
              subst hv'
              clear ho hgr hn hS8 yb y0 y1 y2 y3 y4 y5 y6
              go_wp2
              go_roundw
              case rel => exact ⟨k + 1, B, _, ss ++ [s], i, by omega, hl2.out, by go_num, hrs2, hS8H⟩
              case measure => simp [intOf]; omega
          · have hlt3 : decide ((k : Int) < (cnt : Int)) = false := decide_eq_false (by omega)
            have hkc : k = cnt := by omega
            rw [hkc] at hrs
            have hrp : Hid (Sp.rp bs = some (Sp.pgo ys ss, j')) := rp_s hf4H.out hcH.out hrs.out
            have hpg : Hid (Sp.pgo ys ss = ⟨hd.len, hd.cells, hd.inn, hd.out, ss⟩) := by show _ = _; rw [← hhd.out]; rfl
            have hdn : Hid (Calls Tryd.prog 19 #[.pointer (some ⟨g, 0, none⟩)] wr fun e w' => e = .returned (.int .i64 (dnn j' bs.length : Nat)) ∧ Qt wr w') := tdone_c R g j' bs wr Qk.out.rr
            have hjl : Hid (j' ≤ bs.length) := Qk.out.rr.le
            clear hrs hkc
            go_wp2_with fail
            refine hdn.out.mono ?_
            rintro e w5 ⟨rfl, Q5⟩
            have D5 : Hid (DQ R g b0 b1 bn bl bs w w5 hd cnt B v ss j') := Qk.out.call hDB.out (Q5.fr _) (Qk.out.rr.under (Q5.fr (fun _ => False)) fun _ _ h => h.elim)
            clear Q5 hdn hn0
            by_cases hj : j' = bs.length
            · have e5 : dnn j' bs.length = 0 := if_neg (by omega)
              have hres : Hid (Sp.rw_ bs = some (Sp.pgo ys ss)) := rw_s hrp.out hj
              obtain ⟨x0, x1, x2, x3, x4⟩ := D5.out.x.bx
              obtain ⟨y0, y1, y2, y3, y4⟩ := D5.out.y.bx
              have Zx := D5.out.x.fz
              obtain ⟨ao', cap', hv'⟩ := owns_slice D5.out.ow
              rw [hsl] at hv'
              subst hv'
              clear hj
              go_wp2
              obtain ⟨z0, z1, z2, z3, z4⟩ := D5.out.x.bx.set hd (.slice ao' k cap')
              refine bodyPost_ret (v := .tuple #[pv (Sp.pgo ys ss) (.slice ao' k cap'), .int .i64 0]) (by rw [hpg.out]; unfold pv; simp [results, Tryd.results6, go_sem, z0, z1, z2, z3, z4]) rfl ⟨D5.out.ret hDB.out _ _ _ _ _, .inr ⟨Sp.pgo ys ss, _, hres.out, rfl, ?_⟩⟩
              have h9 : OwS w5 w.heap.size (.slice ao' k cap') ss := D5.out.ow.base (C := w.heap.size) (by have h1 := D5.out.bb; have h2 := hDB.out; unfold DB at h2; omega)
              exact h9.fr (set5_fr w5 b0 _ _ _ _ _) fun b hb h1 => by have h2 := (D5.out.row b hb).1; have h3 := D5.out.bb; have h4 := hDB.out; unfold DB at h4; omega
            · have e5 : dnn j' bs.length = 4 := if_pos (by have := hjl.out; omega)
              have hres : Hid (Sp.rw_ bs = none) := rw_n2 hrp.out hj
              clear hj
              obtain ⟨x0, x1, x2, x3, x4⟩ := D5.out.x.bx
              have Zx := D5.out.x.fz
              go_wp2
              obtain ⟨z0, z1, z2, z3, z4⟩ := D5.out.x.bx.set ⟨0, 0, 0, 0, []⟩ (.slice none 0 0)
              refine bodyPost_ret (v := .tuple #[zp, .int .i64 9]) (by unfold zp; simp [results, Tryd.results6, go_sem, z0, z1, z2, z3, z4]) rfl ⟨D5.out.ret hDB.out _ _ _ _ _, .inl ⟨hres.out, rfl⟩⟩
end Go.Proofs.YtmlfichdfeblpaaDoor
