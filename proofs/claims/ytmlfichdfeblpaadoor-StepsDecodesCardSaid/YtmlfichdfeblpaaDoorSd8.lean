/-
  timbreref15, reading: step.
-/
import Derived.Test.YtmlfichdfeblpaaDoorSd3
import Derived.Test.YtmlfichdfeblpaaDoorSr2
import Derived.Test.YtmlfichdfeblpaaDoorSl1
import Derived.Test.YtmlfichdfeblpaaDoorSr3
import Derived.Test.YtmlfichdfeblpaaDoorQnn
import Derived.Test.YtmlfichdfeblpaaDoorApf
namespace Go.Proofs.YtmlfichdfeblpaaDoor
open Flo Go.RowKit
theorem hid_ex {α : Type} (a : α) : ∃ b, Hid (a = b) := ⟨a, rfl⟩
/-- which cells the fields are, in the bytes' order -/
def ixs (o : Nat) : List Nat := ((((([1] ++ (bif Sp.hs o then [2] else [])) ++ (bif Sp.hj o then [3] else [])) ++ [4]) ++ (bif Sp.hn o then [5] else [])) ++ (bif Sp.hk o then [6] else []))
def setI (s : Sp.St) (i : Nat) (x : Int) : Sp.St :=
  if i = 1 then { s with dst := x } else if i = 2 then { s with src := x } else if i = 3 then { s with jump := x } else if i = 4 then { s with count := x } else if i = 5 then { s with n := x } else { s with k := x }
def rx (bs : List Nat) : List Nat → Sp.St → Nat → Option (Sp.St × Nat)
  | [], s, k => some (s, k)
  | i :: l, s, k => (Sp.rn bs 262144 k).bind fun q => rx bs l (setI s i q.1) q.2
def s0o (o : Nat) : Sp.St := ⟨o, 0, 0, 0, 0, 0, 0⟩
theorem rx_rf (bs : List Nat) (o k : Nat) : rx bs (ixs o) (s0o o) k = (Sp.rf bs (Sp.hl o) k).map fun p => (Sp.sto o p.1, p.2) := by
  unfold ixs Sp.hl s0o
  generalize Sp.hs o = a
  generalize Sp.hj o = b
  generalize Sp.hn o = c
  generalize Sp.hk o = d
  cases a <;> cases b <;> cases c <;> cases d <;>
    simp only [cond_true, cond_false, List.append_nil, List.cons_append, List.nil_append, rx, Sp.rf, Option.map_bind, Option.map_some, Function.comp_def] <;>
    simp [setI, Sp.sto]
theorem rx_app (bs : List Nat) : ∀ (l m : List Nat) (s : Sp.St) (k : Nat), rx bs (l ++ m) s k = (rx bs l s k).bind fun p => rx bs m p.1 p.2
  | [], m, s, k => rfl
  | i :: l, m, s, k => by
    simp only [List.cons_append, rx]
    cases Sp.rn bs 262144 k with
    | none => rfl
    | some q => exact rx_app bs l m _ _
theorem rx_snoc {bs l : List Nat} {s s' : Sp.St} {k j i x y : Nat} (h : rx bs l s k = some (s', j)) (h2 : Sp.rn bs 262144 j = some (x, y)) : rx bs (l ++ [i]) s k = some (setI s' i x, y) := by
  rw [rx_app, h]; simp [rx, h2]
theorem rx_stop {bs l : List Nat} {s s' : Sp.St} {k j i : Nat} {m : List Nat} (h : rx bs l s k = some (s', j)) (h2 : Sp.rn bs 262144 j = none) : rx bs (l ++ i :: m) s k = none := by
  rw [rx_app, h]; simp [rx, h2]
theorem rx_rf_none {bs : List Nat} {o k : Nat} (h : rx bs (ixs o) (s0o o) k = none) : Sp.rf bs (Sp.hl o) k = none := by
  rw [rx_rf] at h; simpa using h
theorem rx_rf_some {bs : List Nat} {o k j : Nat} {s : Sp.St} (h : rx bs (ixs o) (s0o o) k = some (s, j)) : ∃ xs, Sp.rf bs (Sp.hl o) k = some (xs, j) ∧ Sp.sto o xs = s := by
  rw [rx_rf] at h
  cases hr : Sp.rf bs (Sp.hl o) k with
  | none => rw [hr] at h; cases h
  | some p =>
    rw [hr] at h
    simp only [Option.map_some] at h
    injection h with h; injection h with h1 h2
    subst h2
    exact ⟨p.1, rfl, h1⟩
theorem ixs_in (o : Nat) : ∀ i ∈ ixs o, 1 ≤ i ∧ i ≤ 6 := by
  unfold ixs
  generalize Sp.hs o = a
  generalize Sp.hj o = b
  generalize Sp.hn o = c
  generalize Sp.hk o = d
  cases a <;> cases b <;> cases c <;> cases d <;> simp
/-- Upto of the document -/
def DuE (bs : List Nat) (most k : Nat) (R : Nat → Prop) (g : Nat) (w : World) (e : Ending) (w' : World) : Prop :=
  Fr (fun k => k = g) w w' ∧ ((Sp.rn bs most k = none ∧ Rs R w' g bs k ∧ ∃ c : Nat, e = .returned (.tuple #[.int .i64 0, .int .i64 ((c + 1 : Nat) : Int)])) ∨ ∃ x j : Nat, Sp.rn bs most k = some (x, j) ∧ e = .returned (.tuple #[.int .i64 (x : Int), .int .i64 0]) ∧ Rs R w' g bs j)
theorem drn_c (R : Nat → Prop) (g k most : Nat) (bs : List Nat) (w : World) (h : Rs R w g bs k) (hm : most ≤ 1000000000) :
    Calls Tryd.prog 17 #[.pointer (some ⟨g, 0, none⟩), .int .i64 (most : Int)] w fun e w' => DuE bs most k R g w e w' := by
  refine (tupto2_c R g k (most : Int) bs w h (by omega)).mono ?_
  rintro e w' ⟨rfl, h1, h2⟩
  refine ⟨h2, ?_⟩
  cases hr : Pk.rv 0 0 (bs.drop k) with
  | error c =>
    left
    rw [hr] at h1
    rw [upr_err] at h1 ⊢
    exact ⟨by unfold Sp.rn; rw [hr], h1, c, rfl⟩
  | ok p =>
    obtain ⟨x, n⟩ := p
    rw [hr] at h1
    by_cases hx : most < x
    · left
      rw [upr_lim (.inr (by omega))] at h1 ⊢
      exact ⟨by unfold Sp.rn; rw [hr]; simp only; rw [if_pos hx], h1, 2, rfl⟩
    · right
      rw [upr_ok (by omega)] at h1 ⊢
      exact ⟨x, k + n, by unfold Sp.rn; rw [hr]; simp only; rw [if_neg hx], rfl, h1⟩
/-- pointers to a step's fields -/
def pls (b : Nat) (is : List Nat) : List Value := is.map fun i => .pointer (some ⟨b, i, none⟩)
theorem infoPt : (Tryd.prog.info? 51).map (fun i => (i.zero, i.size, i.bytes)) = some (some (.pointer none), 1, 8) := by kernel_rfl
theorem appP1 {ops : Array Oper} {rest : List Oper} {o : Oper} {a : Act} {Q : Exit → Act → World → Prop} (w : World) (hgd : o.guard = none) (sl x : Operand)
    (ho : o.op = .call { callee := .builtin .append, args := #[sl, x], argTypes := #[52, 52] })
    (B b : Nat) (zs : List Nat) (z q : Nat) (v : Value) (hs : a.eval sl = v) (hx : a.eval x = .slice (some ⟨q, 0, none⟩) 1 1) (hrow : w.ownsRow B 51 1 v zs.length (pls b zs))
    (hcell : w.cell? ⟨q, 0, none⟩ = some (.pointer (some ⟨b, z, none⟩))) (hk : zs.length ≤ 1000) (hB : B ≤ w.heap.size)
    (h : ∀ v' w', w'.ownsRow B 51 1 v' (zs ++ [z]).length (pls b (zs ++ [z])) → w.grownBy w' v.ownBlock → (∀ b, v'.ownBlock = some b → v.ownBlock = some b ∨ w.heap.size ≤ b) → wpList Tryd.prog ops Q rest (a.put o.dst v') w') : wpList Tryd.prog ops Q (o :: rest) a w := by
  obtain ⟨i0, hi0, hz0, hz1, hz2⟩ := info_parts infoPt
  refine wpList_append_fr w hgd sl x 52 ho B 51 i0 (.pointer none) 1 8 Tryd.underlying52 hi0 hz0 hz1 hz2 rfl (by decide) v zs.length _ hs hrow ⟨q, 0, none⟩ 1 1 [.pointer (some ⟨b, z, none⟩)] hx rfl ?_ ?_ ?_ ?_ hB ?_
  · intro j u hj
    match j, hj with
    | 0, hj => simp at hj; subst hj; simpa [Addr.add] using hcell
  · intro u hu; simp at hu; subst hu; rfl
  · unfold maxLen; omega
  · omega
  · intro v' w1 hown' hgrow hfr
    refine h v' w1 ?_ hgrow hfr
    have e : pls b (zs ++ [z]) = pls b zs ++ [.pointer (some ⟨b, z, none⟩)] := by simp [pls]
    rw [e, List.length_append]
    exact hown'
/-- a step at a block, free to be written -/
structure Bsf (w : World) (b : Nat) (s : Sp.St) : Prop where
  bx : Bst w b s.op s.dst s.src s.jump s.count s.n s.k
  fz : ∀ i, w.frozen? ⟨b, i, none⟩ = false
section
variable {w w' : World} {b : Nat} {s : Sp.St}
theorem Bsf.fr {S : Nat → Prop} (h : Bsf w b s) (hf : Fr S w w') (hS : ¬ S b) : Bsf w' b s :=
  ⟨h.bx.fr hf hS, fun i => (hf.frozen (p := ⟨b, i, none⟩) (cell_lt (a := ⟨b, 0, none⟩) h.bx.c0) hS).trans (h.fz i)⟩
theorem Bsf.new (w : World) (s : Sp.St) : Bsf (w.alloc (.cells #[.int .i64 s.op, .int .i64 s.dst, .int .i64 s.src, .int .i64 s.jump, .int .i64 s.count, .int .i64 s.n, .int .i64 s.k] 36)) w.heap.size s :=
  ⟨Bst.new w _ _ _ _ _ _ _, fun i => by simp⟩
theorem Bsf.setI (h : Bsf w b s) {i : Nat} (x : Int) (hi : 1 ≤ i ∧ i ≤ 6) : Bsf (w.setCell ⟨b, i, none⟩ (.int .i64 x)) b (setI s i x) := by
  obtain ⟨⟨c0, c1, c2, c3, c4, c5, c6⟩, fz⟩ := h
  refine ⟨?_, fun j => by rw [World.frozen?_setCell]; exact fz j⟩
  obtain ⟨h1, h2⟩ := hi
  match i, h1, h2 with
  | 1, _, _ => constructor <;> simp [Go.Proofs.YtmlfichdfeblpaaDoor.setI, World.cell?_setCell_other, World.cell?_setCell_same, c0, c1, c2, c3, c4, c5, c6]
  | 2, _, _ => constructor <;> simp [Go.Proofs.YtmlfichdfeblpaaDoor.setI, World.cell?_setCell_other, World.cell?_setCell_same, c0, c1, c2, c3, c4, c5, c6]
  | 3, _, _ => constructor <;> simp [Go.Proofs.YtmlfichdfeblpaaDoor.setI, World.cell?_setCell_other, World.cell?_setCell_same, c0, c1, c2, c3, c4, c5, c6]
  | 4, _, _ => constructor <;> simp [Go.Proofs.YtmlfichdfeblpaaDoor.setI, World.cell?_setCell_other, World.cell?_setCell_same, c0, c1, c2, c3, c4, c5, c6]
  | 5, _, _ => constructor <;> simp [Go.Proofs.YtmlfichdfeblpaaDoor.setI, World.cell?_setCell_other, World.cell?_setCell_same, c0, c1, c2, c3, c4, c5, c6]
  | 6, _, _ => constructor <;> simp [Go.Proofs.YtmlfichdfeblpaaDoor.setI, World.cell?_setCell_other, World.cell?_setCell_same, c0, c1, c2, c3, c4, c5, c6]
theorem Bsf.setOp (h : Bsf w b s) (x : Int) : Bsf (w.setCell ⟨b, 0, none⟩ (.int .i64 x)) b { s with op := x } := by
  obtain ⟨⟨c0, c1, c2, c3, c4, c5, c6⟩, fz⟩ := h
  refine ⟨?_, fun j => by rw [World.frozen?_setCell]; exact fz j⟩
  constructor <;> simp [World.cell?_setCell_other, World.cell?_setCell_same, c0, c1, c2, c3, c4, c5, c6]
theorem Bsf.cellI (h : Bsf w b s) {i : Nat} (hi : 1 ≤ i ∧ i ≤ 6) : ∃ z : Int, w.cell? ⟨b, i, none⟩ = some (.int .i64 z) := by
  obtain ⟨⟨c0, c1, c2, c3, c4, c5, c6⟩, fz⟩ := h
  obtain ⟨h1, h2⟩ := hi
  match i, h1, h2 with
  | 1, _, _ => exact ⟨_, c1⟩
  | 2, _, _ => exact ⟨_, c2⟩
  | 3, _, _ => exact ⟨_, c3⟩
  | 4, _, _ => exact ⟨_, c4⟩
  | 5, _, _ => exact ⟨_, c5⟩
  | 6, _, _ => exact ⟨_, c6⟩
end
/-- step's memory -/
structure SS (R : Nat → Prop) (g b0 b1 : Nat) (bs : List Nat) (w wx : World) (s : Sp.St) (j : Nat) : Prop where
  rr : Rs R wx g bs j
  x : Bsf wx b0 ⟨0, 0, 0, 0, 0, 0, 0⟩
  y : Bsf wx b1 s
  fr : Fr (fun k => k = g) w wx
  bb : b0 < b1 ∧ b1 < wx.heap.size
  gb : g < b0
  b0w : w.heap.size = b0
  hR : ∀ k, R k → k < b0
/-- the row's cells and the list of pointers -/
structure SL (wx : World) (b1 q B o : Nat) (v : Value) (is : List Nat) : Prop where
  c1 : wx.cell? ⟨q, 1, none⟩ = some (.bool (Sp.hs o))
  c2 : wx.cell? ⟨q, 2, none⟩ = some (.bool (Sp.hj o))
  c3 : wx.cell? ⟨q, 3, none⟩ = some (.bool (Sp.hn o))
  c4 : wx.cell? ⟨q, 4, none⟩ = some (.bool (Sp.hk o))
  ow : wx.ownsRow B 51 1 v is.length (pls b1 is)
  gb : b1 < q ∧ q < B ∧ B ≤ wx.heap.size
section
variable {R : Nat → Prop} {g b0 b1 j q B o : Nat} {bs is : List Nat} {w wx wy : World} {s : Sp.St} {v : Value}
theorem SS.call (h : SS R g b0 b1 bs w wx s j) (hf : Fr (fun k => k = g) wx wy) {i : Nat} (hr : Rs R wy g bs i) : SS R g b0 b1 bs w wy s i :=
  ⟨hr, h.x.fr hf (by have := h.gb; omega), h.y.fr hf (by have := h.gb; have := h.bb; omega), h.fr.then hf, ⟨h.bb.1, Nat.lt_of_lt_of_le h.bb.2 hf.size⟩, h.gb, h.b0w, h.hR⟩
theorem SS.new (h : SS R g b0 b1 bs w wx s j) (hb : Below wx.heap.size wx wy) : SS R g b0 b1 bs w wy s j :=
  h.call (Fr.of_below hb fun k h1 h2 => by omega) (h.rr.under (Fr.bel hb) fun _ _ h => h.elim)
theorem SS.grow (h : SS R g b0 b1 bs w wx s j) (hl : SL wx b1 q B o v is) (hg : wx.grownBy wy v.ownBlock) : SS R g b0 b1 bs w wy s j := by
  have f1 : Fr (fun k => v.ownBlock = some k) wx wy := (Fr.refl _ wx).grown hg fun _ hk => hk
  have hr : ∀ b, v.ownBlock = some b → B ≤ b := fun b hb => (World.ownsRow.lt hl.ow b hb).1
  have hb := hl.gb
  have h2 := h.bb
  have h3 := h.gb
  have h4 := h.b0w
  exact ⟨h.rr.under f1 fun k _ h1 h2 => by have := hr k h1; have := h.hR k h2; omega, h.x.fr f1 (fun e => by have := hr _ e; omega), h.y.fr f1 (fun e => by have := hr _ e; omega), h.fr.trans f1 fun k hk => .inr (by have := hr k hk; omega), ⟨h2.1, Nat.lt_of_lt_of_le h2.2 hg.size⟩, h3, h4, h.hR⟩
theorem SS.set (h : SS R g b0 b1 bs w wx s j) {i : Nat} (x : Int) (hi : 1 ≤ i ∧ i ≤ 6) : SS R g b0 b1 bs w (wx.setCell ⟨b1, i, none⟩ (.int .i64 x)) (setI s i x) j := by
  have f1 := set_fr wx b1 i (.int .i64 x)
  have h2 := h.bb
  have h3 := h.gb
  have h4 := h.b0w
  exact ⟨h.rr.under f1 fun k _ h1 h2 => by have := h.hR k h2; omega, h.x.fr f1 (by omega), h.y.setI x hi, h.fr.trans f1 fun k hk => .inr (by omega), ⟨h2.1, Nat.lt_of_lt_of_le h2.2 f1.size⟩, h3, h4, h.hR⟩
theorem SL.fr {S : Nat → Prop} (h : SL wx b1 q B o v is) (hf : Fr S wx wy) (h1 : ¬ S q) (h2 : ∀ b, v.ownBlock = some b → ¬ S b) : SL wy b1 q B o v is :=
  ⟨hf.cell h.c1 h1, hf.cell h.c2 h1, hf.cell h.c3 h1, hf.cell h.c4 h1, Fr.owns hf h.ow h2, ⟨h.gb.1, h.gb.2.1, Nat.le_trans h.gb.2.2 hf.size⟩⟩
theorem SL.row (h : SL wx b1 q B o v is) : ∀ b, v.ownBlock = some b → B ≤ b ∧ b < wx.heap.size := fun b hb => World.ownsRow.lt h.ow b hb
theorem SL.push (h : SL wx b1 q B o v is) {v' : Value} {is' : List Nat} (ho : wy.ownsRow B 51 1 v' is'.length (pls b1 is')) (hg : wx.grownBy wy v.ownBlock) : SL wy b1 q B o v' is' := by
  have f1 : Fr (fun k => v.ownBlock = some k) wx wy := (Fr.refl _ wx).grown hg fun _ hk => hk
  have hq : ¬ v.ownBlock = some q := fun e => by have := (h.row _ e).1; have := h.gb; omega
  exact ⟨f1.cell h.c1 hq, f1.cell h.c2 hq, f1.cell h.c3 hq, f1.cell h.c4 hq, ho, ⟨h.gb.1, h.gb.2.1, Nat.le_trans h.gb.2.2 hg.size⟩⟩
theorem SL.at (h : SL wx b1 q B o v is) {k i : Nat} (hi : is[k]? = some i) : ∃ a cap, v = .slice (some ⟨a, 0, none⟩) is.length cap ∧ wx.cell? ⟨a, k, none⟩ = some (.pointer (some ⟨b1, i, none⟩)) := by
  have hh := h.ow
  have hlt : k < is.length := (List.getElem?_eq_some_iff.1 hi).1
  rcases hh.2 with ⟨rfl, h1⟩ | ⟨g, cap, cur, rfl, _⟩
  · omega
  · refine ⟨g, cap, rfl, ?_⟩
    have hc := hh.cellAt k (by omega)
    rw [hc]
    simp [pls, hi]
theorem SL.cell {a n cap : Nat} (h : SL wx b1 q B o (.slice (some ⟨a, 0, none⟩) n cap) is) {k i : Nat} (hi : is[k]? = some i) : wx.cell? ⟨a, k, none⟩ = some (.pointer (some ⟨b1, i, none⟩)) := by
  obtain ⟨a', c', h1, h2⟩ := h.at hi
  injection h1 with h1 _ _
  injection h1 with h1
  injection h1 with h1 _ _
  rw [h1]; exact h2
theorem SL.slice (h : SL wx b1 q B o v is) : ∃ ao cap, v = .slice ao is.length cap := by
  rcases h.ow.2 with ⟨rfl, h1⟩ | ⟨g, cap, cur, rfl, _⟩
  · exact ⟨none, 0, by rw [h1]⟩
  · exact ⟨_, cap, rfl⟩
end
theorem SS.setOp {R : Nat → Prop} {g b0 b1 j : Nat} {bs : List Nat} {w wx : World} (h : SS R g b0 b1 bs w wx ⟨0, 0, 0, 0, 0, 0, 0⟩ j) (o : Nat) : SS R g b0 b1 bs w (wx.setCell ⟨b1, 0, none⟩ (.int .i64 (o : Int))) (s0o o) j := by
  have f1 := set_fr wx b1 0 (.int .i64 (o : Int))
  have h2 := h.bb
  have h3 := h.gb
  have h4 := h.b0w
  exact ⟨h.rr.under f1 fun k _ h1 h2 => by have := h.hR k h2; omega, h.x.fr f1 (by omega), h.y.setOp (o : Int), h.fr.trans f1 fun k hk => .inr (by omega), ⟨h2.1, Nat.lt_of_lt_of_le h2.2 f1.size⟩, h3, h4, h.hR⟩
theorem rst_zero {bs : List Nat} {k j : Nat} (h : Sp.rn bs 11 k = some (0, j)) : Sp.rst bs k = none := by
  cases hr : Sp.rf bs (Sp.hl 0) j with
  | none => exact rst_n2 h hr
  | some p => exact rst_n3 (xs := p.1) (i := p.2) h hr rfl
/-- what step tells -/
def DsE (bs : List Nat) (k : Nat) (R : Nat → Prop) (g : Nat) (w : World) (e : Ending) (w' : World) : Prop :=
  Fr (fun k => k = g) w w' ∧ ((Sp.rst bs k = none ∧ ∃ s : Sp.St, e = .returned (.tuple #[sv s, .bool false])) ∨
    ∃ (s : Sp.St) (j : Nat), Sp.rst bs k = some (s, j) ∧ e = .returned (.tuple #[sv s, .bool true]) ∧ Rs R w' g bs j)
theorem SS.ret {R : Nat → Prop} {g b0 b1 j : Nat} {bs : List Nat} {w wx : World} {s : Sp.St} (h : SS R g b0 b1 bs w wx s j) (a0 a1 a2 a3 a4 a5 a6 : Value) :
    Fr (fun k => k = g) w (((((((wx.setCell ⟨b0, 0, none⟩ a0).setCell ⟨b0, 1, none⟩ a1).setCell ⟨b0, 2, none⟩ a2).setCell ⟨b0, 3, none⟩ a3).setCell ⟨b0, 4, none⟩ a4).setCell ⟨b0, 5, none⟩ a5).setCell ⟨b0, 6, none⟩ a6) :=
  h.fr.trans (set7_fr wx b0 _ _ _ _ _ _ _) fun k hk => .inr (by rw [h.b0w, hk]; exact Nat.le_refl _)
theorem SS.retR {R : Nat → Prop} {g b0 b1 j : Nat} {bs : List Nat} {w wx : World} {s : Sp.St} (h : SS R g b0 b1 bs w wx s j) (a0 a1 a2 a3 a4 a5 a6 : Value) :
    Rs R (((((((wx.setCell ⟨b0, 0, none⟩ a0).setCell ⟨b0, 1, none⟩ a1).setCell ⟨b0, 2, none⟩ a2).setCell ⟨b0, 3, none⟩ a3).setCell ⟨b0, 4, none⟩ a4).setCell ⟨b0, 5, none⟩ a5).setCell ⟨b0, 6, none⟩ a6) g bs j :=
  h.rr.under (set7_fr wx b0 _ _ _ _ _ _ _) fun k _ h1 h2 => by have := h.hR k h2; omega

set_option maxHeartbeats 8000000 in
set_option maxRecDepth 100000 in
theorem dstep_c (R : Nat → Prop) (g K : Nat) (bs : List Nat) (w : World) (h : Rs R w g bs K) (hR : ∀ k, R k → k < w.heap.size) :
    Calls Tryd.prog 18 #[.pointer (some ⟨g, 0, none⟩)] w fun e w' => DsE bs K R g w e w' := by
  have hgl := h.lt
  obtain ⟨b0, hb0⟩ : ∃ b, Hid (w.heap.size = b) := ⟨_, (rfl : _ = _)⟩
  obtain ⟨w1, ew1⟩ : ∃ wa, Hid ((w.alloc (.cells #[.int .i64 0, .int .i64 0, .int .i64 0, .int .i64 0, .int .i64 0, .int .i64 0, .int .i64 0] 36)).alloc (.cells #[.int .i64 0, .int .i64 0, .int .i64 0, .int .i64 0, .int .i64 0, .int .i64 0, .int .i64 0] 36) = wa) := ⟨_, (rfl : _ = _)⟩
  have S1 : Hid (SS R g b0 (b0 + 1) bs w w1 ⟨0, 0, 0, 0, 0, 0, 0⟩ K) := by
    show SS _ _ _ _ _ _ _ _ _
    rw [← ew1.out, ← hb0.out]
    have e1 := Bsf.new w ⟨0, 0, 0, 0, 0, 0, 0⟩
    have e2 := Bsf.new (w.alloc (.cells #[.int .i64 0, .int .i64 0, .int .i64 0, .int .i64 0, .int .i64 0, .int .i64 0, .int .i64 0] 36)) ⟨0, 0, 0, 0, 0, 0, 0⟩
    have f2 : Fr (fun _ => False) w ((w.alloc (.cells #[.int .i64 0, .int .i64 0, .int .i64 0, .int .i64 0, .int .i64 0, .int .i64 0, .int .i64 0] 36)).alloc (.cells #[.int .i64 0, .int .i64 0, .int .i64 0, .int .i64 0, .int .i64 0, .int .i64 0, .int .i64 0] 36)) := (fr_new _ _ _).then (fr_new _ _ _)
    refine ⟨h.under f2 fun k _ h => h.elim, e1.fr (fr_new (fun _ => False) _ _) id, by simpa using e2, f2.mono fun k _ h => h.elim, ⟨by omega, by simp⟩, hgl, rfl, hR⟩
  have hup : Hid (Calls Tryd.prog 17 #[.pointer (some ⟨g, 0, none⟩), .int .i64 11] w1 fun e w' => DuE bs 11 K R g w1 e w') := drn_c R g K 11 bs w1 S1.out.rr (by decide)
  clear h hR hgl
  go_enter Tryd.func18, Tryd.ntmps18
  go_upto_region 2 with fail
  rw [ew1.out, hb0.out]
  obtain ⟨b1, hb1⟩ : ∃ b, Hid (b0 + 1 = b) := ⟨_, (rfl : _ = _)⟩
  rw [hb1.out] at S1 ⊢
  go_wp2_with fail
  refine hup.out.mono ?_
  rintro e w2 ⟨F2, hcs⟩
  clear hup
  rcases hcs with ⟨hnone, R2, c, rfl⟩ | ⟨o, J, hsome, rfl, R2⟩
  · have hres : Hid (Sp.rst bs K = none) := rst_n1 hnone
    have e1 : (((c + 1 : Nat) : Int) != 0) = true := by rw [bne_iff_ne]; omega
    have S2 : Hid (SS R g b0 b1 bs w w2 ⟨0, 0, 0, 0, 0, 0, 0⟩ K) := S1.out.call F2 R2
    generalize ((c + 1 : Nat) : Int) = C at e1
    clear hnone F2 R2 S1
    obtain ⟨st, hst⟩ : ∃ st : Sp.St, st = ⟨0, 0, 0, 0, 0, 0, 0⟩ := ⟨_, rfl⟩
    rw [← hst] at S2
    clear hst
    obtain ⟨y0, y1, y2, y3, y4, y5, y6⟩ := S2.out.y.bx
    obtain ⟨x0, x1, x2, x3, x4, x5, x6⟩ := S2.out.x.bx
    have Zx := S2.out.x.fz
    go_wp2
    obtain ⟨z0, z1, z2, z3, z4, z5, z6⟩ := S2.out.x.bx.set st
    refine bodyPost_ret (v := .tuple #[sv st, .bool false]) (by unfold sv sva; simp [results, Tryd.results18, go_sem, z0, z1, z2, z3, z4, z5, z6]) rfl ⟨S2.out.ret _ _ _ _ _ _ _, .inl ⟨hres.out, st, rfl⟩⟩
  · have S2 : Hid (SS R g b0 b1 bs w w2 ⟨0, 0, 0, 0, 0, 0, 0⟩ J) := S1.out.call F2 R2
    have hsH : Hid (Sp.rn bs 11 K = some (o, J)) := hsome
    have ho11 : o ≤ 11 := rn_lt hsome
    clear F2 R2 S1 hsome
    by_cases ho0 : o = 0
    · have hres : Hid (Sp.rst bs K = none) := by rw [ho0] at hsH; exact rst_zero hsH.out
      have e2 : ((o : Int) == 0) = true := by rw [ho0]; rfl
      clear ho0
      obtain ⟨st, hst⟩ : ∃ st : Sp.St, st = ⟨0, 0, 0, 0, 0, 0, 0⟩ := ⟨_, rfl⟩
      rw [← hst] at S2
      clear hst
      obtain ⟨y0, y1, y2, y3, y4, y5, y6⟩ := S2.out.y.bx
      obtain ⟨x0, x1, x2, x3, x4, x5, x6⟩ := S2.out.x.bx
      have Zx := S2.out.x.fz
      go_wp2
      obtain ⟨z0, z1, z2, z3, z4, z5, z6⟩ := S2.out.x.bx.set st
      refine bodyPost_ret (v := .tuple #[sv st, .bool false]) (by unfold sv sva; simp [results, Tryd.results18, go_sem, z0, z1, z2, z3, z4, z5, z6]) rfl ⟨S2.out.ret _ _ _ _ _ _ _, .inl ⟨hres.out, st, rfl⟩⟩
    · have e2 : ((o : Int) == 0) = false := beq_eq_false_iff_ne.2 (by omega)
      obtain ⟨w3, ew3⟩ : ∃ wa, Hid (w2.setCell ⟨b1, 0, none⟩ (.int .i64 (o : Int)) = wa) := ⟨_, (rfl : _ = _)⟩
      have S3 : Hid (SS R g b0 b1 bs w w3 (s0o o) J) := by rw [← ew3.out]; exact S2.out.setOp o
      have hro : Hid (Calls Tryd.prog 36 #[] w3 fun e w' => e = .returned (.slice (some ⟨w3.heap.size, 0, none⟩) 12 12) ∧ Rws w' w3.heap.size ∧ Below w3.heap.size w3 w') := rows2_c w3
      have y0 := S2.out.y.bx.c0
      have Zy := S2.out.y.fz
      go_upto_region 6 with fail
      rw [ew3.out]
      clear y0 Zy S2
      go_wp2_with fail
      refine hro.out.mono ?_
      rintro e w4 ⟨rfl, R4, B4⟩
      have q3 : (o : Int) < 12 := by omega
      obtain ⟨z0, z1, z2, z3, z4⟩ := R4 o (by omega)
      have S4 : Hid (SS R g b0 b1 bs w w4 (s0o o) J) := S3.out.new B4
      obtain ⟨q, hq⟩ : ∃ b, Hid (w4.heap.size = b) := ⟨_, (rfl : _ = _)⟩
      obtain ⟨w5, ew5⟩ : ∃ wa, Hid (w4.alloc (.cells #[.string (nmb o), .bool (Sp.hs o), .bool (Sp.hj o), .bool (Sp.hn o), .bool (Sp.hk o)] 85) = wa) := ⟨_, (rfl : _ = _)⟩
      clear hro S3 B4 R4
      go_upto_region 7 with fail
      rw [ew5.out, hq.out]
      have S5 : Hid (SS R g b0 b1 bs w w5 (s0o o) J) := by rw [← ew5.out]; exact S4.out.new ((Below.refl _ _).alloc (Nat.le_refl _) _)
      obtain ⟨B, hBB⟩ : ∃ B, Hid (w5.heap.size = B) := ⟨_, (rfl : _ = _)⟩
      obtain ⟨w6, ew6⟩ : ∃ wa, Hid (w5.alloc (.cells #[.pointer (some ⟨b1, 1, none⟩)] 51) = wa) := ⟨_, (rfl : _ = _)⟩
      have S6 : Hid (SS R g b0 b1 bs w w6 (s0o o) J) := by rw [← ew6.out]; exact S5.out.new ((Below.refl _ _).alloc (Nat.le_refl _) _)
      obtain ⟨v0, hv0⟩ : ∃ v0, Hid (Value.slice (some ⟨B, 0, none⟩) 1 1 = v0) := ⟨_, (rfl : _ = _)⟩
      have L6 : Hid (SL w6 b1 q B o v0 [1]) := by
        have hq5 : w5.heap.size = q + 1 := by rw [← ew5.out, ← hq.out]; simp
        rw [← hv0.out, ← ew6.out]
        refine ⟨?_, ?_, ?_, ?_, ?_, ⟨?_, ?_, ?_⟩⟩
        · exact (cell_alloc (by rw [← ew5.out, ← hq.out]; simp) _)
        · exact (cell_alloc (by rw [← ew5.out, ← hq.out]; simp) _)
        · exact (cell_alloc (by rw [← ew5.out, ← hq.out]; simp) _)
        · exact (cell_alloc (by rw [← ew5.out, ← hq.out]; simp) _)
        · rw [← hBB.out]
          exact ⟨rfl, .inr ⟨w5.heap.size, 1, #[.pointer (some ⟨b1, 1, none⟩)], rfl, Nat.le_refl _, heap_alloc_new w5 _, Nat.le_refl _, by decide, rfl, rfl⟩⟩
        · rw [← hq.out]; exact S4.out.bb.2
        · rw [← hBB.out, hq5]; omega
        · rw [← hBB.out]; simp
      clear S4 S5 z0 z1 z2 z3 z4 e2 ho0
      go_upto_region 8 with fail
      rw [ew6.out, hBB.out, hv0.out]
      obtain ⟨I0, hI0⟩ := hid_ex ([1] : List Nat)
      have hl0 : Hid (([1] : List Nat).length ≤ 1) := Nat.le_refl 1
      rw [hI0.out] at L6 hl0
      obtain ⟨f71, hf71⟩ : ∃ f, Hid (Sp.hs o = f) := ⟨_, (rfl : _ = _)⟩
      have zc71 := L6.out.c1
      rw [hf71.out] at zc71
      go_cut [35] (fun r wx => r = .bool f71 ∧ wx = w6)
      case first =>
        go_wp2_with fail
        go_meet
        case rel => exact ⟨rfl, rfl⟩
      case rest =>
        obtain ⟨rfl, rfl⟩ := hcut
        go_upto_if 35 with fail
        obtain ⟨I71, hI71⟩ := hid_ex (I0 ++ (bif f71 then [2] else []) : List Nat)
        have hl71 : Hid (I71.length ≤ 2) := by
          have h9 := hl0.out
          show I71.length ≤ _
          rw [← hI71.out]
          cases f71 <;> simp <;> omega
        go_cut [8] (fun u wx => Hid (SS R g b0 b1 bs w wx (s0o o) J) ∧ Hid (SL wx b1 q B o u I71))
        case first =>
          cases f71 with
          | false =>
            have e9 : I0 = I71 := by have := hI71.out; simpa using this
            rw [e9] at L6
            clear e9
            go_wp2_with fail
            go_meet
            case rel => exact ⟨S6, L6⟩
          | true =>
            have e9 : I0 ++ [2] = I71 := hI71.out
            have hNS : Hid (∀ ob, SS R g b0 b1 bs w (wc.alloc ob) (s0o o) J) := fun ob => S6.out.new ((Below.refl _ _).alloc (Nat.le_refl _) ob)
            have hNL : Hid (∀ ob, SL (wc.alloc ob) b1 q B o v0 I0) := fun ob => L6.out.fr (S := fun _ => False) (fr_new _ _ _) id fun _ _ h => h
            have hcl : Hid ((wc.alloc (.cells #[.pointer (some ⟨b1, 2, none⟩)] 51)).cell? ⟨wc.heap.size, 0, none⟩ = some (.pointer (some ⟨b1, 2, none⟩))) := by simp [Hid]
            have hkl : Hid (I0.length ≤ 1000) := Nat.le_trans hl0.out (by decide)
            go_wp2_with (first | (at_builtin; refine appP1 _ rfl _ _ rfl B b1 I0 2 wc.heap.size v0 rfl rfl (hNL.out _).ow hcl.out hkl.out (hNL.out _).gb.2.2 ?_) | fail)
            intro v' w' ho' hg' _
            have hS' : Hid (SS R g b0 b1 bs w w' (s0o o) J) := (hNS.out _).grow (hNL.out _) hg'
            have hL' := (hNL.out _).push ho' hg'
            try rw [e9] at hL'
            have hLH : Hid (SL w' b1 q B o v' I71) := hL'
            clear ho' hg' hL'
            go_wp2_with fail
            go_meet
            case rel => exact ⟨hS', hLH⟩
        case rest =>
          obtain ⟨S71, L71⟩ := hcut
          clear S6 L6 zc71
          go_upto_region 10 with fail
          obtain ⟨f72, hf72⟩ : ∃ f, Hid (Sp.hj o = f) := ⟨_, (rfl : _ = _)⟩
          have zc72 := L71.out.c2
          rw [hf72.out] at zc72
          go_cut [41] (fun r wx => r = .bool f72 ∧ wx = wc)
          case first =>
            go_wp2_with fail
            go_meet
            case rel => exact ⟨rfl, rfl⟩
          case rest =>
            obtain ⟨rfl, rfl⟩ := hcut
            go_upto_if 41 with fail
            obtain ⟨I72, hI72⟩ := hid_ex (I71 ++ (bif f72 then [3] else []) : List Nat)
            have hl72 : Hid (I72.length ≤ 3) := by
              have h9 := hl71.out
              show I72.length ≤ _
              rw [← hI72.out]
              cases f72 <;> simp <;> omega
            go_cut [8] (fun u wx => Hid (SS R g b0 b1 bs w wx (s0o o) J) ∧ Hid (SL wx b1 q B o u I72))
            case first =>
              cases f72 with
              | false =>
                have e9 : I71 = I72 := by have := hI72.out; simpa using this
                rw [e9] at L71
                clear e9
                go_wp2_with fail
                go_meet
                case rel => exact ⟨S71, L71⟩
              | true =>
                have e9 : I71 ++ [3] = I72 := hI72.out
                have hNS : Hid (∀ ob, SS R g b0 b1 bs w (wc.alloc ob) (s0o o) J) := fun ob => S71.out.new ((Below.refl _ _).alloc (Nat.le_refl _) ob)
                have hNL : Hid (∀ ob, SL (wc.alloc ob) b1 q B o u8 I71) := fun ob => L71.out.fr (S := fun _ => False) (fr_new _ _ _) id fun _ _ h => h
                have hcl : Hid ((wc.alloc (.cells #[.pointer (some ⟨b1, 3, none⟩)] 51)).cell? ⟨wc.heap.size, 0, none⟩ = some (.pointer (some ⟨b1, 3, none⟩))) := by simp [Hid]
                have hkl : Hid (I71.length ≤ 1000) := Nat.le_trans hl71.out (by decide)
                go_wp2_with (first | (at_builtin; refine appP1 _ rfl _ _ rfl B b1 I71 3 wc.heap.size u8 rfl rfl (hNL.out _).ow hcl.out hkl.out (hNL.out _).gb.2.2 ?_) | fail)
                intro v' w' ho' hg' _
                have hS' : Hid (SS R g b0 b1 bs w w' (s0o o) J) := (hNS.out _).grow (hNL.out _) hg'
                have hL' := (hNL.out _).push ho' hg'
                try rw [e9] at hL'
                have hLH : Hid (SL w' b1 q B o v' I72) := hL'
                clear ho' hg' hL'
                go_wp2_with fail
                go_meet
                case rel => exact ⟨hS', hLH⟩
            case rest =>
              obtain ⟨S72, L72⟩ := hcut
              clear S71 L71 zc72
              go_upto_region 12 with fail
              obtain ⟨I73, hI73⟩ := hid_ex (I72 ++ [4] : List Nat)
              have hl73 : Hid (I73.length ≤ 4) := by
                have h9 := hl72.out
                show I73.length ≤ _
                rw [← hI73.out]
                simp; omega
              go_cut [8] (fun u wx => Hid (SS R g b0 b1 bs w wx (s0o o) J) ∧ Hid (SL wx b1 q B o u I73))
              case first =>
                have e9 : I72 ++ [4] = I73 := hI73.out
                have hNS : Hid (∀ ob, SS R g b0 b1 bs w (wc.alloc ob) (s0o o) J) := fun ob => S72.out.new ((Below.refl _ _).alloc (Nat.le_refl _) ob)
                have hNL : Hid (∀ ob, SL (wc.alloc ob) b1 q B o u8 I72) := fun ob => L72.out.fr (S := fun _ => False) (fr_new _ _ _) id fun _ _ h => h
                have hcl : Hid ((wc.alloc (.cells #[.pointer (some ⟨b1, 4, none⟩)] 51)).cell? ⟨wc.heap.size, 0, none⟩ = some (.pointer (some ⟨b1, 4, none⟩))) := by simp [Hid]
                have hkl : Hid (I72.length ≤ 1000) := Nat.le_trans hl72.out (by decide)
                go_wp2_with (first | (at_builtin; refine appP1 _ rfl _ _ rfl B b1 I72 4 wc.heap.size u8 rfl rfl (hNL.out _).ow hcl.out hkl.out (hNL.out _).gb.2.2 ?_) | fail)
                intro v' w' ho' hg' _
                have hS' : Hid (SS R g b0 b1 bs w w' (s0o o) J) := (hNS.out _).grow (hNL.out _) hg'
                have hL' := (hNL.out _).push ho' hg'
                try rw [e9] at hL'
                have hLH : Hid (SL w' b1 q B o v' I73) := hL'
                clear ho' hg' hL'
                go_wp2_with fail
                go_meet
                case rel => exact ⟨hS', hLH⟩
              case rest =>
                obtain ⟨S73, L73⟩ := hcut
                clear S72 L72
                go_upto_region 13 with fail
                obtain ⟨f74, hf74⟩ : ∃ f, Hid (Sp.hn o = f) := ⟨_, (rfl : _ = _)⟩
                have zc74 := L73.out.c3
                rw [hf74.out] at zc74
                go_cut [51] (fun r wx => r = .bool f74 ∧ wx = wc)
                case first =>
                  go_wp2_with fail
                  go_meet
                  case rel => exact ⟨rfl, rfl⟩
                case rest =>
                  obtain ⟨rfl, rfl⟩ := hcut
                  go_upto_if 51 with fail
                  obtain ⟨I74, hI74⟩ := hid_ex (I73 ++ (bif f74 then [5] else []) : List Nat)
                  have hl74 : Hid (I74.length ≤ 5) := by
                    have h9 := hl73.out
                    show I74.length ≤ _
                    rw [← hI74.out]
                    cases f74 <;> simp <;> omega
                  go_cut [8] (fun u wx => Hid (SS R g b0 b1 bs w wx (s0o o) J) ∧ Hid (SL wx b1 q B o u I74))
                  case first =>
                    cases f74 with
                    | false =>
                      have e9 : I73 = I74 := by have := hI74.out; simpa using this
                      rw [e9] at L73
                      clear e9
                      go_wp2_with fail
                      go_meet
                      case rel => exact ⟨S73, L73⟩
                    | true =>
                      have e9 : I73 ++ [5] = I74 := hI74.out
                      have hNS : Hid (∀ ob, SS R g b0 b1 bs w (wc.alloc ob) (s0o o) J) := fun ob => S73.out.new ((Below.refl _ _).alloc (Nat.le_refl _) ob)
                      have hNL : Hid (∀ ob, SL (wc.alloc ob) b1 q B o u8 I73) := fun ob => L73.out.fr (S := fun _ => False) (fr_new _ _ _) id fun _ _ h => h
                      have hcl : Hid ((wc.alloc (.cells #[.pointer (some ⟨b1, 5, none⟩)] 51)).cell? ⟨wc.heap.size, 0, none⟩ = some (.pointer (some ⟨b1, 5, none⟩))) := by simp [Hid]
                      have hkl : Hid (I73.length ≤ 1000) := Nat.le_trans hl73.out (by decide)
                      go_wp2_with (first | (at_builtin; refine appP1 _ rfl _ _ rfl B b1 I73 5 wc.heap.size u8 rfl rfl (hNL.out _).ow hcl.out hkl.out (hNL.out _).gb.2.2 ?_) | fail)
                      intro v' w' ho' hg' _
                      have hS' : Hid (SS R g b0 b1 bs w w' (s0o o) J) := (hNS.out _).grow (hNL.out _) hg'
                      have hL' := (hNL.out _).push ho' hg'
                      try rw [e9] at hL'
                      have hLH : Hid (SL w' b1 q B o v' I74) := hL'
                      clear ho' hg' hL'
                      go_wp2_with fail
                      go_meet
                      case rel => exact ⟨hS', hLH⟩
                  case rest =>
                    obtain ⟨S74, L74⟩ := hcut
                    clear S73 L73 zc74
                    go_upto_region 15 with fail
                    obtain ⟨f75, hf75⟩ : ∃ f, Hid (Sp.hk o = f) := ⟨_, (rfl : _ = _)⟩
                    have zc75 := L74.out.c4
                    rw [hf75.out] at zc75
                    go_cut [57] (fun r wx => r = .bool f75 ∧ wx = wc)
                    case first =>
                      go_wp2_with fail
                      go_meet
                      case rel => exact ⟨rfl, rfl⟩
                    case rest =>
                      obtain ⟨rfl, rfl⟩ := hcut
                      go_upto_if 57 with fail
                      obtain ⟨I75, hI75⟩ := hid_ex (I74 ++ (bif f75 then [6] else []) : List Nat)
                      have hl75 : Hid (I75.length ≤ 6) := by
                        have h9 := hl74.out
                        show I75.length ≤ _
                        rw [← hI75.out]
                        cases f75 <;> simp <;> omega
                      go_cut [8] (fun u wx => Hid (SS R g b0 b1 bs w wx (s0o o) J) ∧ Hid (SL wx b1 q B o u I75))
                      case first =>
                        cases f75 with
                        | false =>
                          have e9 : I74 = I75 := by have := hI75.out; simpa using this
                          rw [e9] at L74
                          clear e9
                          go_wp2_with fail
                          go_meet
                          case rel => exact ⟨S74, L74⟩
                        | true =>
                          have e9 : I74 ++ [6] = I75 := hI75.out
                          have hNS : Hid (∀ ob, SS R g b0 b1 bs w (wc.alloc ob) (s0o o) J) := fun ob => S74.out.new ((Below.refl _ _).alloc (Nat.le_refl _) ob)
                          have hNL : Hid (∀ ob, SL (wc.alloc ob) b1 q B o u8 I74) := fun ob => L74.out.fr (S := fun _ => False) (fr_new _ _ _) id fun _ _ h => h
                          have hcl : Hid ((wc.alloc (.cells #[.pointer (some ⟨b1, 6, none⟩)] 51)).cell? ⟨wc.heap.size, 0, none⟩ = some (.pointer (some ⟨b1, 6, none⟩))) := by simp [Hid]
                          have hkl : Hid (I74.length ≤ 1000) := Nat.le_trans hl74.out (by decide)
                          go_wp2_with (first | (at_builtin; refine appP1 _ rfl _ _ rfl B b1 I74 6 wc.heap.size u8 rfl rfl (hNL.out _).ow hcl.out hkl.out (hNL.out _).gb.2.2 ?_) | fail)
                          intro v' w' ho' hg' _
                          have hS' : Hid (SS R g b0 b1 bs w w' (s0o o) J) := (hNS.out _).grow (hNL.out _) hg'
                          have hL' := (hNL.out _).push ho' hg'
                          try rw [e9] at hL'
                          have hLH : Hid (SL w' b1 q B o v' I75) := hL'
                          clear ho' hg' hL'
                          go_wp2_with fail
                          go_meet
                          case rel => exact ⟨hS', hLH⟩
                      case rest =>
                        obtain ⟨S75, L75⟩ := hcut
                        clear S74 L74 zc75
                        have hIx : Hid (I75 = ixs o) := by
                          show _ = _
                          unfold ixs
                          rw [hf71.out, hf72.out, hf74.out, hf75.out, hI0.out, hI71.out, hI72.out, hI73.out, hI74.out, hI75.out]
                        obtain ⟨n, hn⟩ := hid_ex I75.length
                        have hmx : Hid (∀ k i, I75[k]? = some i → 1 ≤ i ∧ i ≤ 6) := fun k i hi => ixs_in o i (by rw [← hIx.out]; exact List.mem_of_getElem? hi)
                        obtain ⟨a, cap, hu⟩ : ∃ a cap, u8 = .slice (some ⟨a, 0, none⟩) I75.length cap := by
                          obtain ⟨a, cap, h1, _⟩ := L75.out.at (k := 0) (i := 1) (by rw [hIx.out]; rfl)
                          exact ⟨a, cap, h1⟩
                        subst hu
                        rw [hn.out] at L75 ⊢
                        clear hI0 hI71 hI72 hI73 hI74 hI75 hl0 hl71 hl72 hl73 hl74 hf71 hf72 hf74 hf75
                        have hn6 : n ≤ 6 := by have h1 := hl75.out; have h2 := hn.out; omega
                        clear hl75
                        go_wp2
                        go_loopw [64] (fun i wr => ∃ (k : Nat) (s : Sp.St) (j : Nat), k ≤ n ∧ i = .int .i64 k ∧ Hid (rx bs (I75.take k) (s0o o) J = some (s, j)) ∧ Hid (SS R g b0 b1 bs w wr s j) ∧ Hid (SL wr b1 q B o (.slice (some ⟨a, 0, none⟩) n cap) I75)) (fun i _ => n - (intOf i).toNat)
                        case atStart => exact ⟨0, s0o o, J, Nat.zero_le _, rfl, (rfl : _ = _), S75, L75⟩
                        case round =>
                          obtain ⟨k, s, j, hk, rfl, hrx, Sk, Lk⟩ := hrel
                          by_cases hlt : k < n
                          · have hlt' : (k : Int) < (n : Int) := by omega
                            have hkl : k < I75.length := by rw [hn.out]; exact hlt
                            obtain ⟨i, hi⟩ : ∃ i, I75[k]? = some i := ⟨_, List.getElem?_eq_getElem hkl⟩
                            have hcl := Lk.out.cell hi
                            have hin : Hid (1 ≤ i ∧ i ≤ 6) := hmx.out k i hi
                            have htk : Hid (I75.take (k + 1) = I75.take k ++ [i]) := by show _ = _; rw [List.take_add_one, hi]; rfl
                            have hsp : Hid (I75 = I75.take k ++ i :: I75.drop (k + 1)) := by
                              show _ = _
                              have h0 := (List.take_append_drop k I75).symm
                              rw [List.drop_eq_getElem_cons hkl] at h0
                              rw [List.getElem?_eq_getElem hkl] at hi
                              rw [Option.some.inj hi] at h0
                              exact h0
                            have hup : Hid (Calls Tryd.prog 17 #[.pointer (some ⟨g, 0, none⟩), .int .i64 262144] wr fun e w' => DuE bs 262144 j R g wr e w') := drn_c R g j 262144 bs wr Sk.out.rr (by decide)
                            clear hi hkl
                            go_wp2_with fail
                            refine hup.out.mono ?_
                            rintro e w5 ⟨F5, hcs⟩
                            have F5H : Hid (Fr (fun k => k = g) wr w5) := F5
                            clear F5 hup
                            rcases hcs with ⟨hnone, R5, c, rfl⟩ | ⟨x, i2, hsome, rfl, R5⟩
                            · have hres : Hid (Sp.rst bs K = none) := rst_n2 hsH.out (rx_rf_none (by rw [← hIx.out, hsp.out]; exact rx_stop hrx.out hnone))
                              have e1 : (((c + 1 : Nat) : Int) != 0) = true := by rw [bne_iff_ne]; omega
                              have S5 : Hid (SS R g b0 b1 bs w w5 s j) := Sk.out.call F5H.out R5
                              generalize ((c + 1 : Nat) : Int) = C at e1
                              clear hnone R5 hcl
                              obtain ⟨y0, y1, y2, y3, y4, y5, y6⟩ := S5.out.y.bx
                              obtain ⟨x0, x1, x2, x3, x4, x5, x6⟩ := S5.out.x.bx
                              have Zx := S5.out.x.fz
                              go_wp2
                              obtain ⟨z0, z1, z2, z3, z4, z5, z6⟩ := S5.out.x.bx.set s
                              refine bodyPost_ret (v := .tuple #[sv s, .bool false]) (by unfold sv sva; simp [results, Tryd.results18, go_sem, z0, z1, z2, z3, z4, z5, z6]) rfl ⟨S5.out.ret _ _ _ _ _ _ _, .inl ⟨hres.out, s, rfl⟩⟩
                            · have S5 : Hid (SS R g b0 b1 bs w w5 s i2) := Sk.out.call F5H.out R5
                              have hr2 : Hid (rx bs (I75.take (k + 1)) (s0o o) J = some (setI s i x, i2)) := by show _ = _; rw [htk.out]; exact rx_snoc hrx.out hsome
                              obtain ⟨z, hz⟩ := S5.out.y.cellI hin.out
                              have fz := S5.out.y.fz i
                              have L5 : Hid (SL w5 b1 q B o (.slice (some ⟨a, 0, none⟩) n cap) I75) := Lk.out.fr F5H.out (by have h1 := Lk.out.gb; have h2 := Sk.out.bb; have h3 := Sk.out.gb; omega) fun b hb => by have h0 := (Lk.out.row b hb).1; have h1 := Lk.out.gb; have h2 := Sk.out.bb; have h3 := Sk.out.gb; omega
                              have S6 : Hid (SS R g b0 b1 bs w (w5.setCell ⟨b1, i, none⟩ (.int .i64 (x : Int))) (setI s i x) i2) := S5.out.set x hin.out
                              have L6 : Hid (SL (w5.setCell ⟨b1, i, none⟩ (.int .i64 (x : Int))) b1 q B o (.slice (some ⟨a, 0, none⟩) n cap) I75) := L5.out.fr (set_fr w5 b1 i _) (by have h1 := Lk.out.gb; omega) fun b hb => by have h0 := (Lk.out.row b hb).1; have h1 := Lk.out.gb; omega
                              clear hsome R5 hcl S5 L5
                              go_wp2
                              go_roundw
                              case rel => exact ⟨k + 1, setI s i x, i2, by omega, by go_num, hr2, S6, L6⟩
                              case measure => simp [intOf]; omega
                          · have hlt' : decide ((k : Int) < (n : Int)) = false := decide_eq_false (by omega)
                            have hkn : k = I75.length := by rw [hn.out]; omega
                            obtain ⟨xs, hxs, hst⟩ := rx_rf_some (o := o) (bs := bs) (k := J) (s := s) (j := j) (by rw [← hIx.out]; have h1 := hrx.out; rw [hkn, List.take_length] at h1; exact h1)
                            have hxsH : Hid (Sp.rf bs (Sp.hl o) J = some (xs, j)) := hxs
                            have hstH : Hid (Sp.sto o xs = s) := hst
                            have hfo : Hid (Calls Tryd.prog 37 #[sv s] wr fun e w' => e = .returned (.int .i64 (fnn (Sp.fm s))) ∧ Below wr.heap.size wr w') := dform_c s wr
                            obtain ⟨y0, y1, y2, y3, y4, y5, y6⟩ := Sk.out.y.bx
                            clear hxs hst hrx hkn Lk
                            unfold sv sva at hfo
                            go_wp2_with fail
                            refine hfo.out.mono ?_
                            rintro e w5 ⟨rfl, B5⟩
                            have S5 : Hid (SS R g b0 b1 bs w w5 s j) := Sk.out.new B5
                            clear B5 hfo y0 y1 y2 y3 y4 y5 y6 Sk
                            cases hfm : Sp.fm s with
                            | false =>
                              have hres : Hid (Sp.rst bs K = none) := rst_n3 hsH.out hxsH.out (by rw [hstH.out]; exact hfm)
                              have e3 : fnn false = 9 := rfl
                              clear hfm
                              obtain ⟨y0, y1, y2, y3, y4, y5, y6⟩ := S5.out.y.bx
                              obtain ⟨x0, x1, x2, x3, x4, x5, x6⟩ := S5.out.x.bx
                              have Zx := S5.out.x.fz
                              go_wp2
                              obtain ⟨z0, z1, z2, z3, z4, z5, z6⟩ := S5.out.x.bx.set s
                              refine bodyPost_ret (v := .tuple #[sv s, .bool false]) (by unfold sv sva; simp [results, Tryd.results18, go_sem, z0, z1, z2, z3, z4, z5, z6]) rfl ⟨S5.out.ret _ _ _ _ _ _ _, .inl ⟨hres.out, s, rfl⟩⟩
                            | true =>
                              have hres : Hid (Sp.rst bs K = some (s, j)) := by have h1 := rst_s hsH.out hxsH.out (by rw [hstH.out]; exact hfm); rw [hstH.out] at h1; exact h1
                              have e3 : fnn true = 0 := rfl
                              clear hfm
                              obtain ⟨y0, y1, y2, y3, y4, y5, y6⟩ := S5.out.y.bx
                              obtain ⟨x0, x1, x2, x3, x4, x5, x6⟩ := S5.out.x.bx
                              have Zx := S5.out.x.fz
                              go_wp2
                              obtain ⟨z0, z1, z2, z3, z4, z5, z6⟩ := S5.out.x.bx.set s
                              refine bodyPost_ret (v := .tuple #[sv s, .bool true]) (by unfold sv sva; simp [results, Tryd.results18, go_sem, z0, z1, z2, z3, z4, z5, z6]) rfl ⟨S5.out.ret _ _ _ _ _ _ _, .inr ⟨s, j, hres.out, rfl, S5.out.retR _ _ _ _ _ _ _⟩⟩
end Go.Proofs.YtmlfichdfeblpaaDoor
