/-
  What PlannerLists and its fellows rest on, joined: Hin Od4 Od7.
-/
import Derived.Test.YtoaccmblaifnmaaDoorProg
import Derived.WalkKit
import Ieee.Arith
import Derived.WalkLawsBesides
import Derived.Outline
import Derived.Deep.QuietTactic
import Derived.BigQuiet
import Derived.WalkSmall
import Derived.RegionTactic
import Derived.Lib.Mul64
import Derived.Laws.Bits64b
import Derived.Deep.CutBlock
import Derived.Deep.DeepCutAuto
import Derived.Maps.AppendAt
import Derived.Deep.RegionHeld3
import Derived.Deep.RegionWith
import Derived.Laws.OwnMore
import Derived.RangeFuncNested
import Derived.RangeFuncBound
import Derived.RangeFuncCalls
import Derived.RangeFuncLeaves
import Derived.RangeFuncBox
import Derived.Shelf.Abstract
import Derived.Shelf.RegionOpen
import Derived.OwnWalkIn
import Derived.TacticsInMore
import Derived.LoopNIn
import Derived.LoopIn
import Derived.Laws.Rows
import Derived.Laws.AppendOwn
import Derived.Laws.CopyOwn
import Derived.OwnWalk
import Derived.Test.YtoaccmblaifnmaaDoorBb3
import Derived.Test.YtoaccmblaifnmaaDoorBa5
namespace Go.Proofs.YtoaccmblaifnmaaDoor
open Flo Go.RowKit Go.Shelf
section
variable {F : Fence} {n : Nat} {P : Program} {ops : Array Oper} {Q : Exit → Act → World → Prop} {md : Region.Mode} {S : World → Prop}
theorem anyIn_rnd (l : Nat) (hro : F.round = none) (hd : ∀ (i : Nat) (o : Oper), ops[i]? = some o → ∀ c, o.op ≠ .defer c) :
    ∀ (fuel : Nat) (listed : Array Bool) (a : Act) (w : World), wpAnyIn F n P md ops Q fuel listed a w → wpAnyIn (F.inRound l) n P md ops Q fuel listed a w
  | 0, _, _, _, h => h
  | fuel + 1, listed, a, w, h => by
    refine ⟨h.1, fun i hi => ?_⟩
    have h2 := wpOpIn_mono (fun a w => anyIn_rnd l hro hd fuel (listed.setIfInBounds i true) a w) (h.2 i hi)
    unfold wpOpIn at h2 ⊢
    cases ho : ops[i]? with
    | none => rw [ho] at h2; exact h2
    | some o =>
      rw [ho] at h2
      simp only at h2 ⊢
      by_cases hw : Region.wanted o (yielded ops a.tmps) = true
      · rw [if_pos hw] at h2 ⊢
        refine ⟨h2.1, ?_⟩
        have h3 := h2.2
        rw [Oper.semAt_eq _ _ o (hd i o ho)] at h3 ⊢
        exact h3
      · rw [if_neg hw] at h2 ⊢
        exact h2
theorem region_rnd (l : Nat) (hro : F.round = none) (hd : ∀ (i : Nat) (o : Oper), ops[i]? = some o → ∀ c, o.op ≠ .defer c) {id : Nat} {a : Act} {w : World} (hm : P.follows .mixedOrders = true)
    (h : wpAnyIn F n P .any ops Q ops.size (Array.replicate ops.size false) a w.drew) : (Code.region id ops true).wpIn (F.inRound l) n P Q a w :=
  wpIn_region_any hm (anyIn_rnd l hro hd _ _ _ _ h)
def noDf (ops : Array Oper) : Bool := ops.all fun o => match o.op with
  | .defer _ => false
  | _ => true
theorem noDf_iff {ops : Array Oper} (h : noDf ops = true) (i : Nat) (o : Oper) (ho : ops[i]? = some o) (c : Call) : o.op ≠ .defer c := fun e => by
  obtain ⟨hi, rfl⟩ := Array.getElem?_eq_some_iff.1 ho
  have := Array.all_eq_true.1 h i hi
  rw [e] at this
  cases this
/-- whichever order is drawn; S holds behind each operation -/
def HIn (F : Fence) (n : Nat) (P : Program) (md : Region.Mode) (ops : Array Oper) (Q : Exit → Act → World → Prop) (S : World → Prop) : Nat → Array Bool → Act → World → Prop
  | 0, ls, a, w => Region.ready md ops ls = [] ∧ Q .normal a w
  | m + 1, ls, a, w => (Region.ready md ops ls = [] → Q .normal a w) ∧ ∀ i ∈ Region.ready md ops ls, wpOpIn F n P ops Q i (fun a' w' => S w' ∧ HIn F n P md ops Q S m (ls.setIfInBounds i true) a' w') a w
theorem HIn.any : ∀ (m : Nat) (ls : Array Bool) (a : Act) (w : World), HIn F n P md ops Q S m ls a w → wpAnyIn F n P md ops Q m ls a w
  | 0, _, _, _, h => h
  | m + 1, _, _, _, h => ⟨h.1, fun i hi => wpOpIn_mono (fun a' w' k => HIn.any m _ a' w' k.2) (h.2 i hi)⟩
/-- the operation yields v wherever S holds, and makes no call -/
structure Gives (P : Program) (ops : Array Oper) (S : World → Prop) (o : Oper) (v : Value) (a : Act) : Prop where
  mute : ∀ w, o.about P w a.eval = none
  val : (Region.wanted o (yielded ops a.tmps) = true ∧ ∀ w, S w → (execOp a.eval o).run P w = .ok (.value v) w) ∨ (Region.wanted o (yielded ops a.tmps) = false ∧ v = undef)
theorem Gives.now {i : Nat} {o : Oper} {v : Value} {a : Act} (hro : F.round = none) (hi : ops[i]? = some o) (g : Gives P ops S o v a) {K : Act → World → Prop} {w : World} (hS : S w) (h : K (a.put o.dst v) w) : wpOpIn F n P ops Q i K a w := by
  have q : ∀ f, o.about P w a.eval = some f → F.fn f := fun f e => by rw [g.mute w] at e; cases e
  unfold wpOpIn
  rw [hi]
  show if _ then _ else _
  rcases g.val with ⟨h1, h2⟩ | ⟨h1, rfl⟩
  · rw [if_pos h1]
    refine ⟨q, ?_⟩
    rw [hro, Oper.semAt_none, h2 w hS]
    exact h
  · rw [if_neg (by rw [h1]; decide)]
    exact ⟨q, h⟩
theorem Gives.past {o o' : Oper} {v : Value} {a : Act} (hs : ∀ cs b, o.op ≠ .select cs b) (hd : ∀ d, o'.dst = some d → d ∉ o.looksAt ops) (g : Gives P ops S o v a) (u : Value) : Gives P ops S o v (a.put o'.dst u) := by
  refine ⟨fun w => (about_put o w a o'.dst u hd).trans (g.mute w), ?_⟩
  have e1 := execOp_put o hs a o'.dst u hd
  have e2 := wanted_put o a o'.dst u hd
  rw [e1, e2]
  exact g.val
/-- another operation doesn't see whether v is there already -/
theorem Gives.other {j : Nat} {o o' : Oper} {v : Value} (hro : F.round = none) (hj : ops[j]? = some o') (hap : o.apart ops o' = true) (hs : ∀ cs b, o.op ≠ .select cs b) (hs' : ∀ cs b, o'.op ≠ .select cs b)
    (hQ : ∀ c a w, Q (.panic c) (a.put o.dst v) w → Q (.panic c) a w) {K : Act → World → Prop} {a : Act} {w : World} (g : Gives P ops S o v a) (h : wpOpIn F n P ops Q j K (a.put o.dst v) w) :
    wpOpIn F n P ops Q j (fun a' w' => Gives P ops S o v a' ∧ K (a'.put o.dst v) w') a w := by
  obtain ⟨p1, p2, p3⟩ := Oper.apart_spec hap
  have go : ∀ u, Gives P ops S o v (a.put o'.dst u) := fun u => g.past hs p3 u
  have sw : ∀ u, (a.put o'.dst u).put o.dst v = (a.put o.dst v).put o'.dst u := fun u => (Act.put_comm a v u p2).symm
  unfold wpOpIn at h ⊢
  rw [hj] at h ⊢
  simp only at h ⊢
  rw [wanted_put o' a o.dst v p1, about_put o' w a o.dst v p1] at h
  by_cases hw : Region.wanted o' (yielded ops a.tmps) = true
  · rw [if_pos hw] at h ⊢
    unfold Oper.wpIn at h ⊢
    rw [hro, Oper.semAt_none] at h ⊢
    rw [about_put o' w a o.dst v p1, execOp_put o' hs' a o.dst v p1] at h
    refine ⟨h.1, ?_⟩
    have h' := h.2
    clear h
    generalize (execOp a.eval o').run P w = r at h' ⊢
    cases r with
    | ok x w' =>
      cases x with
      | value u => exact ⟨go u, by rw [sw]; exact h'⟩
      | skip => exact ⟨go _, by rw [sw]; exact h'⟩
      | enter f args => exact ⟨h'.1, CallsIn.mono h'.2 fun e w2 k => by cases e with | returned u => exact ⟨go u, by rw [sw]; exact k⟩ | panicked c => exact hQ _ _ _ k | outgrown => exact k⟩
      | row r args => exact ⟨h'.1, RowsIn.mono h'.2 fun u w2 k => ⟨go u, by rw [sw]; exact k⟩⟩
      | round l f t s1 b => exact ⟨h'.1, RoundIn.mono h'.2 fun e w2 k => by cases e with | returned u => exact ⟨go u, by rw [sw]; exact k⟩ | panicked c => exact hQ _ _ _ k | outgrown => exact k⟩
      | defer d =>
        refine ⟨?_, ?_⟩
        · have g' : Gives P ops S o v { a with defers := d :: a.defers } := ⟨g.mute, g.val⟩
          exact g'.past hs p3 undef
        · have := Act.put_comm { a with defers := d :: a.defers } v undef p2
          rw [← this, ← Act.put_defers]
          exact h'
      | _ => exact h'
    | halt x w' =>
      cases x with
      | panic u => exact hQ _ _ _ h'
      | _ => exact h'
  · rw [if_neg hw] at h ⊢
    exact ⟨h.1, go _, by rw [sw]; exact h.2⟩
theorem HIn.first {i : Nat} {o : Oper} {v : Value} (hro : F.round = none) (hi : ops[i]? = some o) (hsel : ∀ (j : Nat) (o : Oper) cs b, ops[j]? = some o → o.op ≠ .select cs b)
    (hQ : ∀ c a w, Q (.panic c) (a.put o.dst v) w → Q (.panic c) a w) :
    ∀ (m : Nat) (ls : Array Bool) (a : Act) (w : World), (∀ j o', ops[j]? = some o' → j ≠ i → ls.getD j true = false → (∀ e ∈ o'.after, Region.binds md e = true → e.on ≠ i) → o.apart ops o' = true) →
      i ∈ Region.ready md ops ls → Gives P ops S o v a → S w → HIn F n P md ops Q S m (ls.setIfInBounds i true) (a.put o.dst v) w → HIn F n P md ops Q S (m + 1) ls a w := by
  intro m
  induction m with
  | zero =>
    intro ls a w _ hr g hS H
    refine ⟨(fun e => by rw [e] at hr; cases hr), fun j hj => ?_⟩
    rcases Nat.decEq j i with hn | rfl
    · have := ready_mono hj hn
      rw [H.1] at this
      cases this
    · exact g.now hro hi hS ⟨hS, H⟩
  | succ m ih =>
    intro ls a w free hr g hS H
    refine ⟨(fun e => by rw [e] at hr; cases hr), fun j hj => ?_⟩
    rcases Nat.decEq j i with hn | rfl
    · obtain ⟨u1, o', ho, u2⟩ := mem_ready.1 hj
      have u3 : ∀ e ∈ o'.after, Region.binds md e = true → e.on ≠ i := fun e he hb q => by
        have k1 := u2 e he hb
        have k0 := (mem_ready.1 hr).1
        rw [q] at k1
        by_cases hl : i < ls.size
        · simp [hl] at k0 k1; rw [k0] at k1; cases k1
        · simp [Array.getElem?_eq_none (Nat.le_of_not_lt hl)] at k1
      have h2 := g.other hro ho (free j o' ho hn u1 u3) (hsel i o · · hi) (hsel j o' · · ho) hQ (H.2 j (ready_mono hj hn))
      refine wpOpIn_mono (fun a' w' k => ⟨k.2.1, ih (ls.setIfInBounds j true) a' w' (fun k' o2 h1 h2 h3 h4 => free k' o2 h1 h2 ?_ h4) (ready_mono hr (Ne.symm hn)) k.1 k.2.1 ?_⟩) h2
      · by_cases q : j = k'
        · subst q; exact u1
        · rw [getD_set_ne true q] at h3; exact h3
      · rw [Array.setIfInBounds_comm _ _ hn]; exact k.2.2
    · exact g.now hro hi hS ⟨hS, H⟩
theorem HIn.take {i : Nat} {o : Oper} {v : Value} {m : Nat} {ls : Array Bool} {a : Act} {w : World} (hi : ops[i]? = some o) (hro : F.round = none)
    (hs : Region.noSelect ops = true) (hf : Region.free md ops ls i = true) (hr : (Region.ready md ops ls).contains i = true)
    (hQ : ∀ c a w, Q (.panic c) (a.put o.dst v) w → Q (.panic c) a w) (g : Gives P ops S o v a) (hS : S w)
    (h : HIn F n P md ops Q S m (ls.setIfInBounds i true) (a.put o.dst v) w) : HIn F n P md ops Q S (m + 1) ls a w :=
  HIn.first hro hi (Region.noSelect_spec hs) hQ m ls a w (Region.free_spec hi hf) (by simpa using hr) g hS h
/-- one alone may come up -/
theorem HIn.one {i : Nat} {o : Oper} {m : Nat} {ls : Array Bool} {a : Act} {w : World} (hi : ops[i]? = some o) (hr : Region.ready md ops ls = [i])
    (h : ∀ K : Act → World → Prop, (∀ a w, S w → HIn F n P md ops Q S m (ls.setIfInBounds i true) a w → K a w) → if Region.wanted o (yielded ops a.tmps) = true then Oper.wpIn F n P o a w K Q else (∀ f, o.about P w a.eval = some f → F.fn f) ∧ K (a.put o.dst undef) w) : HIn F n P md ops Q S (m + 1) ls a w := by
  refine ⟨(fun e => by rw [hr] at e; cases e), fun j hj => ?_⟩
  rw [hr, List.mem_singleton] at hj
  subst hj
  unfold wpOpIn
  rw [hi]
  exact h _ fun a w h1 h2 => ⟨h1, h2⟩
theorem HIn.done {ls : Array Bool} {a : Act} {w : World} (hr : Region.ready md ops ls = []) (h : Q .normal a w) : ∀ m, HIn F n P md ops Q S m ls a w
  | 0 => ⟨hr, h⟩
  | _ + 1 => ⟨fun _ => h, by rw [hr]; intro i hi; cases hi⟩
/-- the beginning, in a round or not -/
theorem HIn.round (l : Nat) (hro : F.round = none) (hd : noDf ops = true) {id : Nat} {a : Act} {w : World} (hm : P.follows .mixedOrders = true)
    (h : HIn F n P .any ops Q S ops.size (Array.replicate ops.size false) a w.drew) : (Code.region id ops true).wpIn (F.inRound l) n P Q a w :=
  region_rnd l hro (noDf_iff hd) hm (HIn.any _ _ _ _ h)
theorem HIn.plain {id : Nat} {a : Act} {w : World} (hm : P.follows .mixedOrders = true)
    (h : HIn F n P .any ops Q S ops.size (Array.replicate ops.size false) a w.drew) : (Code.region id ops true).wpIn F n P Q a w :=
  wpIn_region_any hm (HIn.any _ _ _ _ h)
end
end Go.Proofs.YtoaccmblaifnmaaDoor
namespace Go.Proofs.YtoaccmblaifnmaaDoor
open Flo Go.RowKit Tr
/-- a bool comes back that tells whether a is b -/
def RE (w : World) (a b : Tr) (e : Ending) (w' : World) : Prop := ∃ r : Bool, e = .returned (.bool r) ∧ (r = true ↔ a = b) ∧ Below w.heap.size w w'
theorem tr_ne {k n k' n' : Int} {ks ks' : List Tr} (h : ¬ (k = k' ∧ n = n' ∧ ks.length = ks'.length)) : Tr.mk k n ks ≠ Tr.mk k' n' ks' := fun e => by
  simp only [Tr.mk.injEq] at e
  exact h ⟨e.1, e.2.1, by rw [e.2.2]⟩
theorem re_false {w w' : World} {a b : Tr} (h : a ≠ b) (hb : Below w.heap.size w w') : RE w a b (.returned (.bool false)) w' := ⟨false, rfl, ⟨(fun e => absurd e (by decide)), (fun e => absurd e h)⟩, hb⟩
theorem take_all {ks ks' : List Tr} {i : Nat} (h : ks.take i = ks'.take i) (h1 : ks.length = i) (h2 : ks'.length = i) : ks = ks' := by
  rw [List.take_of_length_le (by omega), List.take_of_length_le (by omega)] at h; exact h
theorem take_succ {ks ks' : List Tr} {i : Nat} {t : Tr} (h : ks.take i = ks'.take i) (h1 : ks[i]? = some t) (h2 : ks'[i]? = some t) : ks.take (i + 1) = ks'.take (i + 1) := by
  rw [List.take_add_one, List.take_add_one, h, h1, h2]
set_option maxHeartbeats 2000000 in
theorem rSame_c (a : Tr) : ∀ (b : Tr) (v u : Value) (w : World), Od w a v → Od w b u → Calls Tryd.prog 16 #[v, u] w (RE w a b) := by
  refine Tr.ind (P := fun a => ∀ (b : Tr) (v u : Value) (w : World), Od w a v → Od w b u → Calls Tryd.prog 16 #[v, u] w (RE w a b)) (fun k n ks ih0 b v u w ha hb => ?_) a
  obtain ⟨k', n', ks'⟩ := b
  obtain ⟨ao, cap, rfl, hl0, hk0⟩ := ha.kds
  obtain ⟨ao', cap', rfl, hl0', hk0'⟩ := hb.kds
  obtain ⟨L, hL⟩ : ∃ L, Hid (ks.length = L) := ⟨_, (rfl : _ = _)⟩
  obtain ⟨L', hL'⟩ : ∃ L, Hid (ks'.length = L) := ⟨_, (rfl : _ = _)⟩
  have hk : Hid (Kds w ao L ks) := by show Kds _ _ _ _; rw [← hL.out]; exact hk0
  have hk' : Hid (Kds w ao' L' ks') := by show Kds _ _ _ _; rw [← hL'.out]; exact hk0'
  have hl : L ≤ 9223372036854775807 := by rw [← hL.out]; exact hl0
  have hl' : L' ≤ 9223372036854775807 := by rw [← hL'.out]; exact hl0'
  have ih : Hid (∀ t ∈ ks, ∀ (b : Tr) (v u : Value) (w : World), Od w t v → Od w b u → Calls Tryd.prog 16 #[v, u] w (RE w t b)) := ih0
  rw [hL.out, hL'.out]
  clear hk0 hl0 ih0 ha hb hk0' hl0'
  obtain ⟨w0, hw0⟩ : ∃ w0, Hid ((w.alloc (.cells #[.int .i64 k, .int .i64 n, .slice ao L cap] 24)).alloc (.cells #[.int .i64 k', .int .i64 n', .slice ao' L' cap'] 24) = w0) := ⟨_, (rfl : _ = _)⟩
  have B0 : Hid (Below w.heap.size w w0) := by show Below _ _ _; rw [← hw0.out]; exact ((Below.refl _ _).alloc (Nat.le_refl _) _).alloc (by simp) _
  have X0 : Hid (Bx3 w0 w.heap.size k n (.slice ao L cap)) := by show Bx3 _ _ _ _ _; rw [← hw0.out]; exact (Bx3.new _ _ _ _ _).below ((Below.refl _ _).alloc (Nat.le_refl _) _)
  have Y0 : Hid (Bx3 w0 (w.heap.size + 1) k' n' (.slice ao' L' cap')) := by
    show Bx3 _ _ _ _ _; rw [← hw0.out]
    have := Bx3.new (w.alloc (.cells #[.int .i64 k, .int .i64 n, .slice ao L cap] 24)) k' n' (.slice ao' L' cap') 24
    simpa using this
  obtain ⟨g, hg⟩ : ∃ g, Hid (w.heap.size = g) := ⟨_, (rfl : _ = _)⟩
  obtain ⟨h, hh⟩ : ∃ h, Hid (w.heap.size + 1 = h) := ⟨_, (rfl : _ = _)⟩
  go_enter Tryd.func16, Tryd.ntmps16
  go_upto_region 1 with fail
  rw [hw0.out]
  rw [hh.out] at Y0 ⊢
  rw [hg.out] at X0 ⊢
  clear hw0
  have c0 := X0.out.c0
  have c1 := X0.out.c1
  have c2 := X0.out.c2
  have d0 := Y0.out.c0
  have d1 := Y0.out.c1
  have d2 := Y0.out.c2
  by_cases h1 : k = k'
  · have q1 : (k != k') = false := by rw [h1]; exact bne_self_eq_false _
    by_cases h2 : n = n'
    · have q2 : (n != n') = false := by rw [h2]; exact bne_self_eq_false _
      by_cases h3 : L = L'
      · subst h3
        have q3 : ((L : Int) != (L : Int)) = false := bne_self_eq_false _
        have hfin : Hid (∀ r : Bool, (r = true ↔ ks = ks') → (r = true ↔ Tr.mk k n ks = Tr.mk k' n' ks')) := fun r hr => by
          rw [hr, h1, h2]; simp
        have hL2 : Hid (ks'.length = L) := hL'.out
        have hk2 : Hid (Kds w ao' L ks') := hk'.out
        clear h1 h2 hk'
        go_wp2_with fail
        go_loopw [31] (fun si wx => ∃ (i : Nat), i ≤ L ∧ si = .int .i64 (i : Int) ∧ Hid (ks.take i = ks'.take i) ∧ Hid (Below w0.heap.size w0 wx)) (fun si _ => L - (intOf si).toNat)
        case atStart => exact ⟨0, Nat.zero_le _, rfl, (rfl : _ = _), Below.refl _ _⟩
        case round =>
          clear c0 c1 c2 d0 d1 d2
          obtain ⟨i, hi, rfl, hall, hb⟩ := hrel
          by_cases hlt : i < L
          · have hlt' : (i : Int) < (L : Int) := by omega
            have hbw : Hid (Below w.heap.size w wr) := btr B0.out hb.out
            obtain ⟨b1, off1, s1, t, et, K0⟩ := hk.out i hlt
            obtain ⟨b2, off2, s2, t2, et2, M0⟩ := hk2.out i hlt
            have K := K0.below hbw.out
            have M := M0.below hbw.out
            obtain rfl := K.at0
            obtain rfl := M.at0
            obtain ⟨a1, l1, p1, rfl⟩ := K.slc
            obtain ⟨a2, l2, p2, rfl⟩ := M.slc
            have e0 := K.c0
            have e1 := K.c1
            have e2 := K.c2
            have f0 := M.c0
            have f1 := M.c1
            have f2 := M.c2
            have hod : Hid (Od wr t (.agg #[.int .i64 t.k, .int .i64 t.n, .slice a1 l1 p1])) := K.od
            have hod2 : Hid (Od wr t2 (.agg #[.int .i64 t2.k, .int .i64 t2.n, .slice a2 l2 p2])) := M.od
            have c2 := (X0.out.below hb.out).c2
            have d2 := (Y0.out.below hb.out).c2
            have hcall : Hid (∀ W, Below wr.heap.size wr W → Calls Tryd.prog 16 #[.agg #[.int .i64 t.k, .int .i64 t.n, .slice a1 l1 p1], .agg #[.int .i64 t2.k, .int .i64 t2.n, .slice a2 l2 p2]] W (RE W t t2)) := fun W hW => ih.out t (List.mem_of_getElem? et) t2 _ _ W (Od.below hW _ _ hod.out) (Od.below hW _ _ hod2.out)
            have etH : Hid (ks[i]? = some t) := et
            have etH2 : Hid (ks'[i]? = some t2) := et2
            clear K K0 M M0 et et2 hod hod2
            generalize t.k = tk at *
            generalize t.n = tn at *
            generalize t2.k = tk2 at *
            generalize t2.n = tn2 at *
            go_upto_region 6 with fail
            go_cut [6] (fun st wx => ∃ r : Bool, st = .bool r ∧ Hid (r = true ↔ t = t2) ∧ Hid (Below wr.heap.size wr wx))
            case first =>
              go_region_with (first | (go_at_call 16; refine (hcall.out _ (below_drewN (Below.refl _ _) 1)).mono ?_; rintro e w1 ⟨r, rfl, hr, W1⟩; have hW1 : Hid (Below wr.heap.size wr w1) := (below_drewN (Below.refl _ _) 1).trans W1; have hrH : Hid (r = true ↔ t = t2) := hr; clear W1 hr))
              all_goals (go_wp2_with fail; go_meet; exact ⟨r, rfl, hrH, hW1⟩)
            case rest =>
              obtain ⟨r, rfl, hr, hW1⟩ := hcut
              have hB1 : Hid (Below w0.heap.size w0 wc) := btr hb.out hW1.out
              clear e0 e1 e2 f0 f1 f2 c2 d2 hcall
              cases r
              · have hne : Hid (Tr.mk k n ks ≠ Tr.mk k' n' ks') := fun e => by
                  simp only [Tr.mk.injEq] at e
                  have := etH.out
                  rw [e.2.2, etH2.out] at this
                  exact absurd (hr.out.2 (Option.some.inj this).symm) (by decide)
                go_wp2_with fail
                go_ret
                exact re_false hne.out (btr B0.out hB1.out)
              · have hnew : Hid (ks.take (i + 1) = ks'.take (i + 1)) := take_succ hall.out etH.out (by rw [etH2.out, hr.out.1 rfl])
                go_wp2_with fail
                exact ⟨⟨i + 1, by omega, by go_num, hnew, hB1⟩, by simp [intOf]; omega⟩
          · have hlt' : decide ((i : Int) < (L : Int)) = false := decide_eq_false (by omega)
            have ei : i = L := by omega
            subst ei
            have heq : Hid (Tr.mk k n ks = Tr.mk k' n' ks') := (hfin.out true ⟨(fun _ => take_all hall.out hL.out hL2.out), (fun _ => rfl)⟩).1 rfl
            go_wp2_with fail
            go_ret
            exact ⟨true, rfl, ⟨(fun _ => heq.out), (fun _ => rfl)⟩, btr B0.out hb.out⟩
      · have q3 : ((L : Int) != (L' : Int)) = true := bne_iff_ne.2 (by omega)
        have hne : Hid (Tr.mk k n ks ≠ Tr.mk k' n' ks') := tr_ne (fun h => h3 (by rw [← hL.out, ← hL'.out]; exact h.2.2))
        clear h1 h2
        go_wp2_with fail
        go_ret
        exact re_false hne.out B0.out
    · have q2 : (n != n') = true := bne_iff_ne.2 h2
      have hne : Hid (Tr.mk k n ks ≠ Tr.mk k' n' ks') := tr_ne (fun h => h2 h.2.1)
      clear h1
      go_wp2_with fail
      go_ret
      exact re_false hne.out B0.out
  · have q1 : (k != k') = true := bne_iff_ne.2 h1
    have hne : Hid (Tr.mk k n ks ≠ Tr.mk k' n' ks') := tr_ne (fun h => h1 h.1)
    go_wp2_with fail
    go_ret
    exact re_false hne.out B0.out
end Go.Proofs.YtoaccmblaifnmaaDoor
namespace Go.Proofs.YtoaccmblaifnmaaDoor
open Flo Go.RowKit Tr
/-- a leaf in memory: its kind, its number, its (empty) list -/
abbrev Lf : Type := Int × Int × Option Addr × Nat
def lfc (p : Lf) : List Value := [.int .i64 p.1, .int .i64 p.2.1, .slice p.2.2.1 0 p.2.2.2]
def lfs (ps : List Lf) : List Value := ps.flatMap lfc
theorem infoO : (Tryd.prog.info? 24).map (fun i => (i.zero, i.size, i.bytes)) = some (some (.agg #[.int .i64 0, .int .i64 0, .slice none 0 0]), 3, 40) := by kernel_rfl
theorem info_o : ∃ i, Tryd.prog.info? 24 = some i ∧ i.zero = some (.agg #[.int .i64 0, .int .i64 0, .slice none 0 0]) ∧ i.size = 3 ∧ i.bytes = 40 := by
  obtain ⟨i, hi, h⟩ := Option.map_eq_some_iff.1 infoO
  simp only [Prod.mk.injEq] at h
  exact ⟨i, hi, h.1, h.2.1, h.2.2⟩
end Go.Proofs.YtoaccmblaifnmaaDoor
