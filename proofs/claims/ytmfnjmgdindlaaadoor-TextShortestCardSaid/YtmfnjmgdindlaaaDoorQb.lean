/-
  Rows of words in memory, the call's own: what the cells hold is a function of the place.
-/
import Derived.Test.YtmfnjmgdindlaaaDoorProg
import Derived.Test.YtmfnjmgdindlaaaDoorQa
import Derived.WalkLawsBesides
import Derived.Outline
import Derived.Deep.QuietTactic
import Derived.BigQuiet
import Derived.WalkSmall
namespace Go.Proofs.YtmfnjmgdindlaaaDoor
open Flo Go.RowKit
def Cl (κ : IntKind) (k : Nat) (f : Nat → Nat) : List Value := (Wd.tab k f).map fun (x : Nat) => Value.int κ (x : Int)
theorem Cl_len (κ : IntKind) (k : Nat) (f : Nat → Nat) : (Cl κ k f).length = k := by simp [Cl, Wd.tab_len]
theorem Cl_get (κ : IntKind) {k i : Nat} (f : Nat → Nat) (h : i < k) : (Cl κ k f)[i]? = some (.int κ (f i : Nat)) := by
  simp [Cl, Wd.tab_get f h]
theorem Cl_succ (κ : IntKind) (k : Nat) (f : Nat → Nat) : Cl κ (k + 1) f = Cl κ k f ++ [.int κ (f k : Nat)] := by simp [Cl, Wd.tab_succ]
theorem Cl_zero (κ : IntKind) (f : Nat → Nat) : Cl κ 0 f = [] := rfl
theorem Cl_set (κ : IntKind) (k i x : Nat) (f : Nat → Nat) : (Cl κ k f).set i (.int κ (x : Nat)) = Cl κ k (fun j => if j = i then x else f j) := by
  unfold Cl; rw [← Wd.tab_set, List.map_set]
theorem Cl_congr (κ : IntKind) {k : Nat} {f f' : Nat → Nat} (h : ∀ j, j < k → f j = f' j) : Cl κ k f = Cl κ k f' := by
  unfold Cl; rw [Wd.tab_congr h]
/-- a row of k words, in a block of its own from B on (or nil) -/
def Row (T : TypeId) (κ : IntKind) (w : World) (B : Nat) (v : Value) (k : Nat) (f : Nat → Nat) : Prop := w.ownsRow B T 1 v k (Cl κ k f)
section
variable {T : TypeId} {κ : IntKind} {w w' : World} {B k : Nat} {v : Value} {f f' : Nat → Nat}
theorem Row.cases (h : Row T κ w B v k f) : (v = .slice none 0 0 ∧ k = 0) ∨ ∃ g cap, v = .slice (some ⟨g, 0, none⟩) k cap ∧ B ≤ g ∧ g < w.heap.size ∧ cap ≤ maxLen := by
  rcases h.2 with h1 | ⟨g, cap, cur, rfl, h1, h2, h3, h4, h5, h6⟩
  · exact .inl h1
  · exact .inr ⟨g, cap, rfl, h1, (Array.getElem?_eq_some_iff.1 h2).1, h4⟩
theorem Row.slice (h : Row T κ w B v k f) : ∃ ao cap, v = .slice ao k cap := by
  rcases h.cases with ⟨rfl, rfl⟩ | ⟨g, cap, rfl, _⟩
  · exact ⟨_, _, rfl⟩
  · exact ⟨_, _, rfl⟩
theorem Row.max (h : Row T κ w B v k f) : k ≤ 9223372036854775807 := by
  rcases h.2 with ⟨_, h1⟩ | ⟨g, cap, cur, rfl, h1, h2, h3, h4, h5, h6⟩
  · omega
  · unfold maxLen at h4; omega
theorem Row.lt (h : Row T κ w B v k f) : ∀ b, v.ownBlock = some b → B ≤ b ∧ b < w.heap.size := World.ownsRow.lt h
theorem Row.congr (h : Row T κ w B v k f) (e : ∀ j, j < k → f j = f' j) : Row T κ w B v k f' := by
  unfold Row at *; rw [← Cl_congr κ e]; exact h
theorem Row.nil (T : TypeId) (κ : IntKind) (w : World) (B : Nat) (f : Nat → Nat) : Row T κ w B (.slice none 0 0) 0 f := World.ownsRow_nil _ _ _ _
theorem Row.base (h : Row T κ w B v k f) {C : Nat} (hC : ∀ b, v.ownBlock = some b → C ≤ b) : Row T κ w C v k f := by
  obtain ⟨h1, h2⟩ := h
  refine ⟨h1, ?_⟩
  rcases h2 with h2 | ⟨g, cap, cur, rfl, h3, h4⟩
  · exact .inl h2
  · exact .inr ⟨g, cap, cur, rfl, hC g rfl, h4⟩
theorem Row.mono (h : Row T κ w B v k f) {C : Nat} (hC : C ≤ B) : Row T κ w C v k f := h.base fun b hb => Nat.le_trans hC (h.lt b hb).1
theorem Row.block (h : Row T κ w B v k f) (hb : ∀ b, v.ownBlock = some b → w'.heap[b]? = w.heap[b]?) : Row T κ w' B v k f := by
  obtain ⟨h1, h2⟩ := h
  refine ⟨h1, ?_⟩
  rcases h2 with h2 | ⟨g, cap, cur, rfl, h3, h4, h5⟩
  · exact .inl h2
  · exact .inr ⟨g, cap, cur, rfl, h3, (hb g rfl).trans h4, h5⟩
theorem Row.below (h : Row T κ w B v k f) {C : Nat} (hb : Below C w w') (hC : ∀ b, v.ownBlock = some b → b < C) : Row T κ w' B v k f :=
  h.block fun b e => hb.block b (hC b e)
theorem Row.under (h : Row T κ w B v k f) (hb : Below w.heap.size w w') : Row T κ w' B v k f := h.below hb fun b e => (h.lt b e).2
theorem Row.kept (h : Row T κ w B v k f) {r : Option Nat} (hg : w.grownBy w' r) (hne : ∀ b, v.ownBlock = some b → some b ≠ r) : Row T κ w' B v k f :=
  h.block fun b e => hg.block b (h.lt b e).2 (hne b e)
theorem Row.allocs (h : Row T κ w B v k f) (o : Obj) : Row T κ (w.alloc o) B v k f := World.ownsRow.alloc h o
end
section
variable {T : TypeId} {κ : IntKind} {w w' : World} {B k g cap : Nat} {f f' : Nat → Nat}
theorem Row.cell (h : Row T κ w B (.slice (some ⟨g, 0, none⟩) k cap) k f) (i : Nat) (hi : i < k) : w.cell? ⟨g, i, none⟩ = some (.int κ (f i : Nat)) := by
  rw [World.ownsRow.cellAt h i (by omega), Cl_get κ f hi]
theorem Row.free (h : Row T κ w B (.slice (some ⟨g, 0, none⟩) k cap) k f) (i : Nat) : w.frozen? ⟨g, i, none⟩ = false := World.ownsRow.frozenAt h i
theorem Row.put (h : Row T κ w B (.slice (some ⟨g, 0, none⟩) k cap) k f) (i x : Nat) :
    Row T κ (w.setCell ⟨g, i, none⟩ (.int κ (x : Nat))) B (.slice (some ⟨g, 0, none⟩) k cap) k (fun j => if j = i then x else f j) ∧ w.grownBy (w.setCell ⟨g, i, none⟩ (.int κ (x : Nat))) (some g) := by
  have := World.ownsRow.stored h i (.int κ (x : Nat))
  rw [Cl_set] at this
  exact this
theorem Row.pop (h : Row T κ w B (.slice (some ⟨g, 0, none⟩) (k + 1) cap) (k + 1) f) : Row T κ w B (.slice (some ⟨g, 0, none⟩) k cap) k f := by
  unfold Row at h
  rw [Cl_succ] at h
  exact ownsRow_pop (by rw [Cl_len, Nat.mul_one]) h
end
theorem gb_refl (w : World) (r : Option Nat) : w.grownBy w r := ⟨rfl, rfl, rfl, Nat.le_refl _, fun _ _ _ => rfl⟩
theorem gb_trans {w w1 w2 : World} {r r2 : Option Nat} (h : w.grownBy w1 r) (h2 : w1.grownBy w2 r2) (hr : ∀ k, r2 = some k → r = some k ∨ w.heap.size ≤ k) : w.grownBy w2 r :=
  ⟨h2.os.trans h.os, h2.tape.trans h.tape, h2.output.trans h.output, Nat.le_trans h.size h2.size, fun k hk hne => by
    refine (h2.block k (Nat.lt_of_lt_of_le hk h.size) fun e => ?_).trans (h.block k hk hne)
    rcases hr k e.symm with h3 | h3
    · exact hne h3.symm
    · omega⟩
theorem gb_below {w w' : World} (h : w.grownBy w' none) : Below w.heap.size w w' := ⟨h.os, h.tape, h.output, h.size, fun k hk => h.block k hk (by simp)⟩
theorem below_gb {w w' : World} (h : Below w.heap.size w w') (r : Option Nat) : w.grownBy w' r := ⟨h.os, h.tape, h.output, h.size, fun k hk _ => h.block k hk⟩
/-- v was turned into v', in its own block or in a new one; nothing else was touched -/
structure Inp (w w' : World) (v v' : Value) : Prop where
  gb : w.grownBy w' v.ownBlock
  own : ∀ b, v'.ownBlock = some b → v.ownBlock = some b ∨ w.heap.size ≤ b
theorem Inp.trans {w w1 w2 : World} {v v1 v2 : Value} (h : Inp w w1 v v1) (h2 : Inp w1 w2 v1 v2) : Inp w w2 v v2 :=
  ⟨gb_trans h.gb h2.gb h.own, fun b hb => by
    rcases h2.own b hb with h3 | h3
    · exact h.own b h3
    · exact .inr (Nat.le_trans h.gb.size h3)⟩
theorem Inp.refl (w : World) (v : Value) : Inp w w v v := ⟨gb_refl _ _, fun _ h => .inl h⟩
/-- what is the call's own from C on stays so -/
theorem Inp.below {w0 w w' : World} {v v' : Value} {C : Nat} (h : Inp w w' v v') (hb : Below C w0 w) (hC : C ≤ w.heap.size) (hv : ∀ b, v.ownBlock = some b → C ≤ b) : Below C w0 w' := hb.grown h.gb hC hv
theorem Inp.base {w w' : World} {v v' : Value} {C : Nat} (h : Inp w w' v v') (hC : C ≤ w.heap.size) (hv : ∀ b, v.ownBlock = some b → C ≤ b) : ∀ b, v'.ownBlock = some b → C ≤ b := fun b hb => by
  rcases h.own b hb with h1 | h1
  · exact hv b h1
  · omega
/-- two values of two blocks -/
def Apt (u v : Value) : Prop := ∀ b, u.ownBlock = some b → v.ownBlock ≠ some b
theorem Apt.symm {u v : Value} (h : Apt u v) : Apt v u := fun b hb hu => h b hu hb
theorem Inp.apt {w w' : World} {u v v' : Value} (h : Inp w w' v v') (ha : Apt u v) (hu : ∀ b, u.ownBlock = some b → b < w.heap.size) : Apt u v' := fun b hb hv => by
  rcases h.own b hv with h1 | h1
  · exact ha b hb h1
  · have := hu b hb; omega
theorem Row.other {T : TypeId} {κ : IntKind} {w w' : World} {B k : Nat} {u v v' : Value} {f : Nat → Nat} (h : Row T κ w B u k f) (hi : Inp w w' v v') (ha : Apt u v) : Row T κ w' B u k f :=
  h.kept hi.gb fun b hb e => ha b hb e.symm
theorem apt_of {u v : Value} {C : Nat} (hu : ∀ b, u.ownBlock = some b → b < C) (hv : ∀ b, v.ownBlock = some b → C ≤ b) : Apt u v := fun b h1 h2 => by
  have := hu b h1; have := hv b h2; omega
end Go.Proofs.YtmfnjmgdindlaaaDoor
/-
  The program's naturals: trimmed.
-/
namespace Go.Proofs.YtmfnjmgdindlaaaDoor
open Flo Go.RowKit
/-- the base of the program's naturals -/
def W64 : Nat := 18446744073709551616
theorem W64_2 : 2 ≤ W64 := by decide
theorem W64_0 : 0 < W64 := by decide
theorem wd64 (n i : Nat) : Wd.wd W64 n i < 18446744073709551616 := Wd.wd_lt W64_0 n i
set_option maxHeartbeats 1000000 in
theorem trimmed_0 (ao : Option Addr) (cap : Nat) (w : World) :
    Calls Tryd.prog 56 #[.slice ao 0 cap] w fun e w' => e = .returned (.slice ao 0 cap) ∧ w = w' := by
  go_enter Tryd.func56, Tryd.ntmps56
  go_wp2
  refine wp_loop_rounds 1 ?_
  rw [rounds_succ]
  go_wp2
  go_ret
  exact ⟨rfl, rfl⟩
def lenOf : Value → Nat | .slice _ n _ => n | _ => 0
set_option maxHeartbeats 1000000 in
theorem trimmed_n (B g k cap n : Nat) (w : World) (hr : Row 22 .u64 w B (.slice (some ⟨g, 0, none⟩) k cap) k (Wd.wd W64 n)) (hn : Hid (n < W64 ^ k)) :
    Calls Tryd.prog 56 #[.slice (some ⟨g, 0, none⟩) k cap] w fun e w' => e = .returned (.slice (some ⟨g, 0, none⟩) (Wd.nw W64 n) cap) ∧ Row 22 .u64 w B (.slice (some ⟨g, 0, none⟩) (Wd.nw W64 n) cap) (Wd.nw W64 n) (Wd.wd W64 n) ∧ w = w' := by
  have hkm := hr.max
  go_enter Tryd.func56, Tryd.ntmps56
  go_wp2
  go_loop [0] (fun s => ∃ j : Nat, j ≤ k ∧ s = .slice (some ⟨g, 0, none⟩) j cap ∧ Hid (n < W64 ^ j) ∧ Hid (Row 22 .u64 w B (.slice (some ⟨g, 0, none⟩) j cap) j (Wd.wd W64 n))) (fun s => lenOf s)
  case atStart => exact ⟨k, Nat.le_refl _, rfl, hn, hr⟩
  case round =>
    obtain ⟨j, hj, rfl, hnj, hrj⟩ := hrel
    have hcap : j ≤ cap := by
      rcases hrj.out.2 with ⟨h, _⟩ | ⟨g', cap', cur, h, _, _, h2, _⟩
      · cases h
      · cases h; exact h2
    by_cases h0 : j = 0
    · subst h0
      have hz : Hid (Wd.nw W64 n = 0) := by
        have h1 : n < 1 := by have := hnj.out; rwa [Nat.pow_zero] at this
        rw [show n = 0 by omega]; exact Wd.nw_zero _
      go_wp2
      go_ret
      rw [hz.out]
      exact ⟨rfl, hrj.out, rfl⟩
    · obtain ⟨i, rfl⟩ : ∃ i, j = i + 1 := ⟨j - 1, by omega⟩
      have hc := hrj.out.cell i (by omega)
      by_cases hz : Wd.wd W64 n i = 0
      · have hn' : Hid (n < W64 ^ i) := Wd.nw_lt_of_top W64_2 hnj.out hz
        rw [hz] at hc
        go_wp2
        go_round
        case rel => exact ⟨i, by omega, by go_num, hn', hrj.out.pop⟩
        case measure => simp [lenOf]
      · have hw : Hid (Wd.nw W64 n = i + 1) := Wd.nw_of_top W64_2 hnj.out hz
        generalize Wd.wd W64 n i = x at hc hz
        have hz' : ((x : Int) == 0) = false := beq_eq_false_iff_ne.2 (by omega)
        clear hz
        go_wp2
        go_ret
        rw [hw.out]
        exact ⟨rfl, hrj.out, rfl⟩
theorem trimmed_c (B k n : Nat) (v : Value) (w : World) (hr : Row 22 .u64 w B v k (Wd.wd W64 n)) (hn : n < W64 ^ k) :
    Calls Tryd.prog 56 #[v] w fun e w' => ∃ v', e = .returned v' ∧ Row 22 .u64 w B v' (Wd.nw W64 n) (Wd.wd W64 n) ∧ v'.ownBlock = v.ownBlock ∧ w = w' := by
  rcases hr.cases with ⟨rfl, rfl⟩ | ⟨g, cap, rfl, _⟩
  · have hz : Wd.nw W64 n = 0 := by
      have h1 : n < 1 := by rwa [Nat.pow_zero] at hn
      rw [show n = 0 by omega]; exact Wd.nw_zero _
    refine (trimmed_0 _ _ w).mono ?_
    rintro e w' ⟨rfl, rfl⟩
    exact ⟨_, rfl, by rw [hz]; exact hr, rfl, rfl⟩
  · refine (trimmed_n B g k cap n w hr hn).mono ?_
    rintro e w' ⟨rfl, h1, rfl⟩
    exact ⟨_, rfl, h1, rfl, rfl⟩
end Go.Proofs.YtmfnjmgdindlaaaDoor
/-
  An append to a row of the call's own: it lies where it lay, or in a new block.
-/
namespace Go.Proofs.YtmfnjmgdindlaaaDoor
open Flo Go.RowKit
section
variable {P : Program} (w : World)
theorem append_fr (base : Nat) (t ty e : TypeId) (i : TypeInfo) (z : Value) (size bytes : Nat) (ht : P.underlying t = some (.slice e)) (hi : P.info? e = some i) (hz : i.zero = some z)
    (hsize : i.size = size) (hby : i.bytes = bytes) (hzs : z.cells.size = size) (hsz : 0 < size)
    (v : Value) (n : Nat) (xs : List Value) (hown : w.ownsRow base e size v n xs)
    (a : Addr) (m c : Nat) (news : List Value) (hl : news.length = m * size) (hnews : ∀ j u, news[j]? = some u → w.cell? (a.add j) = some u) (h1 : ∀ u ∈ news, u.oneCell' = true)
    (h63 : n + m ≤ maxLen) (hbytes : (n + m) * bytes ≤ 140737488355328) (hbase : base ≤ w.heap.size) :
    ∃ v' w', (Builtin.append_ #[t, t] ty #[v, .slice (some a) m c]).run P w = .ok v' w' ∧ w'.ownsRow base e size v' (n + m) (xs ++ news) ∧ w.grownBy w' v.ownBlock ∧
      (∀ b, v'.ownBlock = some b → v.ownBlock = some b ∨ w.heap.size ≤ b) := by
  obtain ⟨v', w', hr, h2, h3, h4⟩ := run_append_own (P := P) w base t ty e i z size bytes ht hi hz hsize hby hzs hsz v n xs hown a m c news hl hnews h1 h63 hbytes hbase
  refine ⟨v', w', hr, h2, h3, ?_⟩
  have hsmall : n + m ≤ 9223372036854775807 := h63
  subst hsize
  subst hby
  rcases hown.2 with ⟨rfl, rfl⟩ | ⟨g, cap, cur, rfl, hbg, hg, hnc, hcm, hcs, htake⟩
  · by_cases hm : m = 0
    · have hv := h4.2 ⟨rfl, hm⟩
      subst hv
      intro b hb
      cases hb
    · have hr2 := run_append_nil (P := P) w t ty e i z ht hi hz a m c news hl hnews (by omega) (by omega) (by rw [Nat.zero_add] at hbytes; omega)
      rw [hr] at hr2
      cases hr2
      intro b hb
      cases hb
      exact .inr (Nat.le_refl _)
  · by_cases hroom : n + m ≤ cap
    · have hr2 := run_append_room (P := P) w t ty e i ht hi g n cap cur hg a m c news hl hnews h1 hroom (by rw [hl, hcs, ← Nat.add_mul]; exact Nat.mul_le_mul_right _ hroom)
      rw [hr] at hr2
      cases hr2
      intro b hb
      exact .inl hb
    · have hr2 := run_append_grow (P := P) w t ty e i z ht hi hz ⟨g, 0, none⟩ n cap xs hown.1 (hown.cells (g := g) rfl) a m c news hl hnews (by omega) (by omega) (growslice_fits (by omega) hbytes)
      rw [hr] at hr2
      cases hr2
      intro b hb
      cases hb
      exact .inr (Nat.le_refl _)
theorem wpList_append_fr {ops : Array Oper} {rest : List Oper} {o : Oper} {a : Act} {Q : Exit → Act → World → Prop} (hgd : o.guard = none) (s x : Operand) (t : TypeId)
    (ho : o.op = .call { callee := .builtin .append, args := #[s, x], argTypes := #[t, t] })
    (base : Nat) (e : TypeId) (i : TypeInfo) (z : Value) (size bytes : Nat) (ht : P.underlying t = some (.slice e)) (hi : P.info? e = some i) (hz : i.zero = some z)
    (hsize : i.size = size) (hby : i.bytes = bytes) (hzs : z.cells.size = size) (hsz : 0 < size)
    (v : Value) (n : Nat) (xs : List Value) (hs : a.eval s = v) (hown : w.ownsRow base e size v n xs)
    (ad : Addr) (m c : Nat) (news : List Value) (hx : a.eval x = .slice (some ad) m c) (hl : news.length = m * size) (hnews : ∀ j u, news[j]? = some u → w.cell? (ad.add j) = some u) (h1 : ∀ u ∈ news, u.oneCell' = true)
    (h63 : n + m ≤ maxLen) (hbytes : (n + m) * bytes ≤ 140737488355328) (hbase : base ≤ w.heap.size)
    (h : ∀ v' w', w'.ownsRow base e size v' (n + m) (xs ++ news) → w.grownBy w' v.ownBlock → (∀ b, v'.ownBlock = some b → v.ownBlock = some b ∨ w.heap.size ≤ b) → wpList P ops Q rest (a.put o.dst v') w') : wpList P ops Q (o :: rest) a w := by
  obtain ⟨v', w', hr, h2, h3, h4⟩ := append_fr (P := P) w base t o.type e i z size bytes ht hi hz hsize hby hzs hsz v n xs hown ad m c news hl hnews h1 h63 hbytes hbase
  refine wpList_plain hgd fun _ hK => ?_
  unfold Oper.wp execOp
  simp only [ho, resolve, invoke, builtin, Sem.run_bind, Sem.run_pure, Result.andThen_ok, List.map_toArray, List.map_cons, List.map_nil, hs, hx, hr]
  exact hK _ _ (h v' w' h2 h3 h4)
end
end Go.Proofs.YtmfnjmgdindlaaaDoor
