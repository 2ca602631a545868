/-
  Package planner's tellProducts.
-/
import Derived.Test.YtoaccmblaifnmaaDoorProg
import Derived.WalkKit
import Ieee.Arith
import Derived.WalkLawsBesides
import Derived.Outline
import Derived.Deep.QuietTactic
import Derived.BigQuiet
import Derived.WalkSmall
import Derived.RegionTactic
import Derived.Lib.Mul64
import Derived.Laws.Bits64b
import Derived.Deep.CutBlock
import Derived.Deep.DeepCutAuto
import Derived.Maps.AppendAt
import Derived.Deep.RegionHeld3
import Derived.Deep.RegionWith
import Derived.Laws.OwnMore
import Derived.RangeFuncNested
import Derived.RangeFuncBound
import Derived.RangeFuncCalls
import Derived.RangeFuncLeaves
import Derived.RangeFuncBox
import Derived.Shelf.Abstract
import Derived.Shelf.RegionOpen
import Derived.OwnWalkIn
import Derived.TacticsInMore
import Derived.LoopNIn
import Derived.LoopIn
import Derived.Laws.Rows
import Derived.Lib.ItoaNum
import Derived.Laws.IdiomStrings
import Derived.Lib.SmallJoins
import Derived.Lib.HexFns
import Derived.Test.YtoaccmblaifnmaaDoorRows
import Derived.LaidEql
import Derived.LaidLaws
import Derived.LaidHandle
import Derived.Stop.Joined
import Derived.Recover
import Derived.RegionDies
import Derived.Laws.CopyOwn
import Derived.Lib.AppendIntMem
import Derived.Laws.AppendOwn
import Derived.OwnWalk
import Derived.BigCall
import Derived.Deep.RegionHeldLaw
import Derived.Laws.FloatArith
import Derived.Laws.ComplexArith
import Derived.Laws.MakeOwn
import Derived.MapKept
import Derived.Carry
import Derived.Test.YtoaccmblaifnmaaDoorBc2
namespace Go.Proofs.YtoaccmblaifnmaaDoor
open Flo Go.RowKit Go.Shelf Tr
attribute [local go_sem] Oper.semAt_some
/-- what is said, beside blocks of a frame that nobody touches -/
def FrI {β : Type} (Fr : List (Nat × Obj)) (X : β → (Nat → Prop) → World → Prop) (s : β) (U : Nat → Prop) (W : World) : Prop := ∃ U0, X s U0 W ∧ Fx Fr W ∧ (∀ b, U b ↔ U0 b ∨ ∃ p ∈ Fr, p.1 = b) ∧ ∀ p ∈ Fr, ¬ U0 p.1
theorem FrI.stb {β : Type} {Fr : List (Nat × Obj)} {X : β → (Nat → Prop) → World → Prop} (h : Stb X) : Stb (FrI Fr X) := by
  rintro s U W W' T ⟨U0, h1, h2, h3, h4⟩ hk ha
  exact ⟨U0, h _ _ _ _ T h1 hk (fun b hb hu => ha b hb ((h3 b).2 (.inl hu))), hk.fx h2 (fun p hp ht => ha p.1 ht ((h3 p.1).2 (.inr ⟨p, hp, rfl⟩))), h3, h4⟩
theorem FrI.mk {β : Type} {Fr : List (Nat × Obj)} {X : β → (Nat → Prop) → World → Prop} {s : β} {U0 : Nat → Prop} {W : World} (h1 : X s U0 W) (h2 : Fx Fr W) (h4 : ∀ p ∈ Fr, ¬ U0 p.1) : FrI Fr X s (fun b => U0 b ∨ ∃ p ∈ Fr, p.1 = b) W := ⟨U0, h1, h2, fun _ => Iff.rfl, h4⟩
theorem FrI.bd {Fr : List (Nat × Obj)} {U0 : Nat → Prop} {W : World} (h1 : Bd U0 W) (h2 : Fx Fr W) : Bd (fun b => U0 b ∨ ∃ p ∈ Fr, p.1 = b) W := by
  rintro b (h | ⟨p, hp, rfl⟩)
  · exact h1 b h
  · exact blk_lt (h2 p hp)
/-- a round that touched what it may leaves the frame as it was -/
theorem FrI.next {γ : Type} {Fr : List (Nat × Obj)} {Y : γ → (Nat → Prop) → World → Prop} {s' : γ} {U U0 U0' O O2 : Nat → Prop} {W W1 W' : World} {tk tk2 : Prop} {lo : Nat}
    (h2 : Fx Fr W) (h3 : ∀ b, U b ↔ U0 b ∨ ∃ p ∈ Fr, p.1 = b) (h4 : ∀ p ∈ Fr, ¬ U0 p.1) (k1 : KT (fun b => lo ≤ b) W W1) (hlo : ∀ b, U b → b < lo) (hO : ∀ b, O b → lo ≤ b) (hs1 : lo ≤ W1.heap.size) (r : Rnd tk U0 O U0' W1 W') (hY : Y s' U0' W') :
    ∃ U', KT (fun b => U b ∨ (tk2 ∧ O2 b) ∨ lo ≤ b) W W' ∧ (∀ b, U' b → U b ∨ (tk2 ∧ O2 b) ∨ lo ≤ b) ∧ Bd U' W' ∧ FrI Fr Y s' U' W' := by
  have nf : ∀ p ∈ Fr, ¬ (U0 p.1 ∨ (tk ∧ O p.1)) := fun p hp h => by
    rcases h with h | ⟨_, h⟩
    · exact h4 p hp h
    · have := hO _ h; have := hlo _ ((h3 _).2 (.inr ⟨p, hp, rfl⟩)); omega
  have f1 : Fx Fr W1 := k1.fx h2 fun p hp h => by have := hlo _ ((h3 _).2 (.inr ⟨p, hp, rfl⟩)); omega
  have f2 : Fx Fr W' := r.kt.fx f1 nf
  have n4 : ∀ p ∈ Fr, ¬ U0' p.1 := fun p hp h => by
    rcases r.old _ h with h | h | h
    · exact nf p hp (.inl h)
    · exact nf p hp (.inr h)
    · have := hlo _ ((h3 _).2 (.inr ⟨p, hp, rfl⟩)); omega
  refine ⟨_, ?_, ?_, FrI.bd r.bd f2, FrI.mk hY f2 n4⟩
  · have a1 : KT (fun b => U b ∨ (tk2 ∧ O2 b) ∨ lo ≤ b) W W1 := k1.weak fun b _ h => .inr (.inr h)
    refine a1.trans (r.kt.weak fun b _ h => ?_)
    rcases h with h | ⟨_, h⟩
    · exact .inl ((h3 b).2 (.inl h))
    · exact .inr (.inr (hO b h))
  · rintro b (h | ⟨p, hp, rfl⟩)
    · rcases r.old b h with h | ⟨_, h⟩ | h
      · exact .inl ((h3 b).2 (.inl h))
      · exact .inr (.inr (hO b h))
      · exact .inr (.inr (by omega))
    · exact .inl ((h3 _).2 (.inr ⟨p, hp, rfl⟩))
def toldO (t : Tr) (v : Value) (O : Nat → Prop) (W : World) : Prop := Os O W t v
theorem toldO_st : ∀ x v O W W' T, toldO x v O W → KT T W W' → Ap T O → toldO x v O W' := fun _ _ _ _ _ _ h k ha => Os.keep (fun _ hb => hb) (fun b hb hl => k.block b hl fun t => ha b t hb) _ _ h
theorem setCell_same {w : World} {b : Nat} {v : Value} {t : TypeId} (h : w.heap[b]? = some (.cells #[v] t (0, 0))) : w.setCell ⟨b, 0, none⟩ v = w := by
  have e : (w.setCell ⟨b, 0, none⟩ v).heap = w.heap := by
    apply Array.ext_getElem?
    intro i
    unfold World.setCell
    dsimp only
    rw [Array.getElem?_modify]
    by_cases hi : b = i
    · subst hi
      rw [if_pos rfl, h]
      rfl
    · rw [if_neg hi]
  show { w with heap := (w.setCell ⟨b, 0, none⟩ v).heap } = w
  rw [e]
/-- a new round's box of an order, the value in its slot too -/
def AxV (mk : Value → Value → Act) (lo : Nat) (_ : Tr) (v : Value) (a : Act) (W : World) : Prop := ∃ Bx k n s, lo ≤ Bx ∧ v = .agg #[.int .i64 k, .int .i64 n, s] ∧ W.heap[Bx]? = some (.cells #[.int .i64 k, .int .i64 n, s] 24 (0, 0)) ∧ a = mk v (.pointer (some ⟨Bx, 0, none⟩))
theorem AxV.st {mk : Value → Value → Act} : ∀ lo x v a W W' T, AxV mk lo x v a W → KT T W W' → (∀ b, T b → b < lo) → AxV mk lo x v a W' := by
  rintro lo x v a W W' T ⟨Bx, k, n, s, h1, h2, h3, h4⟩ hk ht
  exact ⟨Bx, k, n, s, h1, h2, (hk.block Bx (blk_lt h3) fun h => by have := ht _ h; omega).trans h3, h4⟩
def prods (ls xs : List Tr) : List Tr := ls.flatMap fun a => xs.map fun b => ⟨3, 0, [a, b]⟩
/-- what a caller's yield answers -/
def Yld (P : Program) (l : Nat) (tk : Prop) (XS : List Tr) (J Jx : List Tr → (Nat → Prop) → World → Prop) : Prop :=
  ∀ m pre x v U O W1, J pre U W1 → toldO x v O W1 → Bd O W1 → Bd U W1 → Ap O U → pre ++ [x] <+: XS → YieldAt Fence.wide m P l #[v] W1 fun e W' => ∃ U', Rnd tk U O U' W1 W' ∧ ((e = .returned (.bool true) ∧ J (pre ++ [x]) U' W') ∨ (e = .returned (.bool false) ∧ Jx (pre ++ [x]) U' W'))
set_option maxRecDepth 100000 in
set_option maxHeartbeats 4000000 in
/-- the loop over the second parts, for one first part -/
theorem tell_rf {n l g g1 B8 ac : Nat} {ak an : Int} {aa : Option Addr} {s0 s1 s2 s3 s4 s7 s9 s10 s11 s12 s13 s14 s15 s17 s18 s19 s20 s21 s22 s23 s24 : Value} {ds : List Deferred} {Q : Exit → Act → World → Prop} {w : World} {g2 : Nat} {lb2 : Array Value} (eg : ∀ args w, (callFunc g2 args).run Tryd.prog w = .ok (.enter g2 args) w)
    {C2 : List (Nat × Obj)} {xs2 : List Tr} {Sr : (Nat → Prop) → World → Prop} {Mt : Nat → Prop} (hseq : SeqU Tryd.prog g2 lb2 C2 toldO xs2 False Sr Mt) (hSs : ∀ V W W' T, Sr V W → KT T W W' → Ap T V → Sr V W')
    {V U0 : Nat → Prop} (hSr : Sr V w) (hC : Fx C2 w) (hCV : ∀ p ∈ C2, V p.1) (bV : Bd V w) (bU : Bd U0 w) (hap : Ap V U0) {J Jx : List Tr → (Nat → Prop) → World → Prop} {tk : Prop} {XS pre0 : List Tr} (hYl : Yld Tryd.prog l tk XS J Jx) (hJ : Stb J) (hJx : Stb Jx) (h0 : J pre0 U0 w)
    {Fr : List (Nat × Obj)} (hFr : Fx Fr w) (hFU : ∀ p ∈ Fr, ¬ U0 p.1 ∧ ¬ V p.1) (m1 : (g, Obj.cells #[.func (.yield l) #[] #[]] 26 (0, 0)) ∈ Fr) (m2 : (g1, Obj.cells #[.bool false] 4 (0, 0)) ∈ Fr) (m3 : (B8, Obj.cells #[.int .i64 ak, .int .i64 an, .slice aa 0 ac] 24 (0, 0)) ∈ Fr) (hfit : fit ak an)
    (hpre : pre0 ++ xs2.map (fun b => Tr.mk 3 0 [⟨ak, an, []⟩, b]) <+: XS) (hpt : ∀ t ∈ xs2, pt t ≤ 65536)
    (hdone : ∀ (U2 V2 : Nat → Prop) (W2 : World), Sr V2 W2 ∧ (∀ b, V b → ¬ Mt b → W2.heap[b]? = w.heap[b]?) ∧ (∀ b, V b → V2 b) ∧ (∀ b, V2 b → V b ∨ w.heap.size ≤ b) ∧ Bd V2 W2 ∧ Bd U2 W2 ∧ Ap V2 U2 ∧ Fx Fr W2 ∧ (∀ p ∈ Fr, ¬ U2 p.1 ∧ ¬ V2 p.1) ∧ ¬ U2 w.heap.size ∧ ¬ V2 w.heap.size ∧ W2.heap[w.heap.size]? = some (.deferred (some [])) → J (pre0 ++ xs2.map (fun b => Tr.mk 3 0 [⟨ak, an, []⟩, b])) U2 W2 → Q .normal { tmps := #[s0, s1, s2, s3, s4, .pointer (some ⟨g, 0, none⟩), .pointer (some ⟨g1, 0, none⟩), s7, .pointer (some ⟨B8, 0, none⟩), s9, s10, s11, s12, s13, s14, s15, .func (.func g2) #[] lb2, s17, s18, s19, s20, s21, s22, s23, s24], defers := ({ target := .collected w.heap.size, args := #[] } :: ds) } W2)
    (hstop : ∀ (U2 V2 : Nat → Prop) (W2 : World), Sr V2 W2 ∧ (∀ b, V b → ¬ Mt b → W2.heap[b]? = w.heap[b]?) ∧ (∀ b, V b → V2 b) ∧ (∀ b, V2 b → V b ∨ w.heap.size ≤ b) ∧ Bd V2 W2 ∧ Bd U2 W2 ∧ Ap V2 U2 ∧ Fx Fr W2 ∧ (∀ p ∈ Fr, ¬ U2 p.1 ∧ ¬ V2 p.1) ∧ ¬ U2 w.heap.size ∧ ¬ V2 w.heap.size ∧ W2.heap[w.heap.size]? = some (.deferred (some [])) → (∃ pre, pre <+: XS ∧ Jx pre U2 W2) → Q .ret { tmps := #[s0, s1, s2, s3, s4, .pointer (some ⟨g, 0, none⟩), .pointer (some ⟨g1, 0, none⟩), s7, .pointer (some ⟨B8, 0, none⟩), s9, s10, s11, s12, s13, s14, s15, .func (.func g2) #[] lb2, s17, s18, s19, s20, s21, s22, s23, s24], defers := ({ target := .collected w.heap.size, args := #[] } :: ds) } W2) :
    (Code.rangeFunc (Operand.tmp 16) #[17] (Code.region 5 #[{ dst := some 9, op := Go.Op.alloc 24, type := 0, pos := "search.go:82", after := #[], guard := none },
      { dst := none, op := Go.Op.store 24 (Go.Operand.tmp 9) (Go.Operand.tmp 17), type := 0, pos := "search.go:82", after := #[{ on := 0, ground := Go.Ground.data }, { on := 0, ground := Go.Ground.phase }], guard := none }] false) (Code.block 3 ((Code.region 6 #[{ dst := some 18, op := Go.Op.load 26 (Go.Operand.tmp 5), type := 26, pos := "search.go:83", after := #[], guard := none },
      { dst := some 19, op := Go.Op.load 24 (Go.Operand.tmp 8), type := 24, pos := "search.go:83", after := #[], guard := none },
      { dst := some 20, op := Go.Op.load 24 (Go.Operand.tmp 9), type := 24, pos := "search.go:83", after := #[], guard := none },
      { dst := some 21, op := Go.Op.call { callee := Go.Callee.value (Go.Operand.func 11), args := #[Go.Operand.tmp 19, Go.Operand.tmp 20], argTypes := #[24, 24] }, type := 24, pos := "search.go:83", after := #[{ on := 1, ground := Go.Ground.data }, { on := 2, ground := Go.Ground.data }], guard := none },
      { dst := some 22, op := Go.Op.call { callee := Go.Callee.value (Go.Operand.tmp 18), args := #[Go.Operand.tmp 21], argTypes := #[24] }, type := 4, pos := "search.go:83", after := #[{ on := 0, ground := Go.Ground.data }, { on := 3, ground := Go.Ground.data }, { on := 3, ground := Go.Ground.chain }], guard := none },
      { dst := some 23, op := Go.Op.unOp Go.UnOp.not 4 (Go.Operand.tmp 22), type := 4, pos := "search.go:83", after := #[{ on := 4, ground := Go.Ground.data }], guard := none }] true).seq (Code.cond (Operand.tmp 23) ((Code.region 7 #[{ dst := none, op := Go.Op.store 4 (Go.Operand.tmp 6) (Go.Operand.const (Go.Value.bool false)), type := 0, pos := "search.go:84", after := #[], guard := none }] false).seq Code.ret) Code.skip)))).wpIn Fence.wide n Tryd.prog Q { tmps := #[s0, s1, s2, s3, s4, .pointer (some ⟨g, 0, none⟩), .pointer (some ⟨g1, 0, none⟩), s7, .pointer (some ⟨B8, 0, none⟩), s9, s10, s11, s12, s13, s14, s15, .func (.func g2) #[] lb2, s17, s18, s19, s20, s21, s22, s23, s24], defers := ds } w := by
  have hYH : Hid (Yld Tryd.prog l tk XS J Jx) := hYl
  have hJH : Hid (Stb J) := hJ
  have hpH : Hid (pre0 ++ xs2.map (fun b => Tr.mk 3 0 [⟨ak, an, []⟩, b]) <+: XS) := hpre
  have hfH : Hid (fit ak an) := hfit
  have mY : Hid ((g, Obj.cells #[.func (.yield l) #[] #[]] 26 (0, 0)) ∈ Fr) := m1
  have mR : Hid ((g1, Obj.cells #[.bool false] 4 (0, 0)) ∈ Fr) := m2
  have mA : Hid ((B8, Obj.cells #[.int .i64 ak, .int .i64 an, .slice aa 0 ac] 24 (0, 0)) ∈ Fr) := m3
  have hptH : Hid (∀ t ∈ xs2, pt t ≤ 65536) := hpt
  refine rangeU (C := C2) (told := toldO) (xs := xs2) (tk := False) (Sr := Sr) (Mt := Mt) rfl eg hseq toldO_st hSs hSr hC hCV bV (U := fun b => U0 b ∨ ∃ p ∈ Fr, p.1 = b) (FrI.bd bU hFr) (fun b hb h => by rcases h with h | ⟨p, hp, rfl⟩; exact hap b hb h; exact (hFU p hp).2 hb)
    (FrI Fr fun pre2 => J (pre0 ++ pre2.map (fun b => Tr.mk 3 0 [⟨ak, an, []⟩, b])))
    (fun c _ U W => c = Code.ret ∧ FrI Fr (fun (_ : Unit) U W => ∃ pre, pre <+: XS ∧ Jx pre U W) () U W)
    (FrI.stb fun s U W W' T h => hJ _ U W W' T h) (fun c s U W W' T h hk ha => ⟨h.1, FrI.stb (fun _ U W W' T ⟨pre, q1, q2⟩ hk ha => ⟨pre, q1, hJx _ U W W' T q2 hk ha⟩) _ _ _ _ T h.2 hk ha⟩)
    (by simpa using FrI.mk (X := fun pre2 => J (pre0 ++ pre2.map (fun b => Tr.mk 3 0 [⟨ak, an, []⟩, b]))) (s := []) (by simpa using h0) hFr (fun p hp => (hFU p hp).1))
    (AxV fun v p => { tmps := #[s0, s1, s2, s3, s4, .pointer (some ⟨g, 0, none⟩), .pointer (some ⟨g1, 0, none⟩), s7, .pointer (some ⟨B8, 0, none⟩), p, s10, s11, s12, s13, s14, s15, .func (.func g2) #[] lb2, v, s18, s19, s20, s21, s22, s23, s24], defers := [] }) AxV.st ?assign ?body ?done ?stop
  case assign =>
    intro l1 x v O W K ht hK
    obtain ⟨va, vc, rfl⟩ := Os.shape ht
    generalize x.ks.length = vl at *
    gi_wp2
    refine hK _ _ ((KT.refl _ W).alloc _) ⟨W.heap.size, x.k, x.n, .slice va vl vc, Nat.le_refl _, rfl, ?_, rfl⟩
    exact heap_alloc_new W _
  case body =>
    rintro l1 pre x v a' U O lo W hI ht hO hU hlo1 hlo2 hOU hp ⟨Bx, k, m, s, hBx, rfl, hBb, rfl⟩
    obtain ⟨U1, hJ1, hF1, hUU, hnF⟩ := hI
    obtain ⟨va, vc, e⟩ := Os.shape ht
    simp only [Value.agg.injEq, Array.mk.injEq, List.cons.injEq, Value.int.injEq, true_and, and_true] at e
    obtain ⟨rfl, rfl, rfl⟩ := e
    have htH : Hid (toldO x (.agg #[.int .i64 x.k, .int .i64 x.n, .slice va x.ks.length vc]) O W) := ht
    have hmem : x ∈ xs2 := (hp.subset (by simp) : x ∈ xs2)
    have hpx : Hid (pt x ≤ 65536) := hptH.out x hmem
    have hcont : Hid ((pre0 ++ pre.map (fun b => Tr.mk 3 0 [⟨ak, an, []⟩, b])) ++ [Tr.mk 3 0 [⟨ak, an, []⟩, x]] <+: XS) := by
      refine List.IsPrefix.trans ?_ hpH.out
      obtain ⟨r, hr⟩ := hp
      refine ⟨r.map (fun b => Tr.mk 3 0 [⟨ak, an, []⟩, b]), ?_⟩
      rw [← hr]
      simp
    obtain ⟨xk, hxk⟩ : ∃ xk, Hid (x.k = xk) := ⟨_, (rfl : _ = _)⟩
    obtain ⟨xn, hxn⟩ : ∃ xn, Hid (x.n = xn) := ⟨_, (rfl : _ = _)⟩
    rw [hxk.out, hxn.out] at htH hBb ⊢
    generalize x.ks.length = vl at *
    have cY : Hid (W.heap[g]? = some (.cells #[.func (.yield l) #[] #[]] 26 (0, 0))) := hF1 _ m1
    have cA : Hid (W.heap[B8]? = some (.cells #[.int .i64 ak, .int .i64 an, .slice aa 0 ac] 24 (0, 0))) := hF1 _ m3
    have cR : Hid (W.heap[g1]? = some (.cells #[.bool false] 4 (0, 0))) := hF1 _ m2
    have cB : Hid (W.heap[Bx]? = some (.cells #[.int .i64 xk, .int .i64 xn, .slice va vl vc] 24 (0, 0))) := hBb
    have gl : g < lo := hU _ ((hUU _).2 (.inr ⟨_, m1, rfl⟩))
    have al : B8 < lo := hU _ ((hUU _).2 (.inr ⟨_, m3, rfl⟩))
    have hJ1H : Hid (J (pre0 ++ pre.map (fun b => Tr.mk 3 0 [⟨ak, an, []⟩, b])) U1 W) := hJ1
    have hU1 : Hid (∀ b, U1 b → b < lo) := fun b hb => hU b ((hUU b).2 (.inl hb))
    have hF1H : Hid (Fx Fr W) := hF1
    have hUUH : Hid (∀ b, U b ↔ U1 b ∨ ∃ p ∈ Fr, p.1 = b) := hUU
    have hnFH : Hid (∀ p ∈ Fr, ¬ U1 p.1) := hnF
    have hUH : Hid (∀ b, U b → b < lo) := hU
    have hBlt : Hid (Bx < W.heap.size) := blk_lt hBb
    have glH : Hid (g < lo ∧ B8 < lo ∧ lo ≤ Bx ∧ lo ≤ W.heap.size) := ⟨gl, al, hBx, hlo2⟩
    have hSS : Hid (∀ X : World, X.heap[g]? = W.heap[g]? → X.heap[B8]? = W.heap[B8]? → X.heap[Bx]? = W.heap[Bx]? → (X.cell? ⟨g, 0, none⟩ = some (.func (.yield l) #[] #[]) ∧ X.cell? ⟨B8, 0, none⟩ = some (.int .i64 ak) ∧ X.cell? ⟨B8, 1, none⟩ = some (.int .i64 an) ∧ X.cell? ⟨B8, 2, none⟩ = some (.slice aa 0 ac) ∧ X.cell? ⟨Bx, 0, none⟩ = some (.int .i64 xk) ∧ X.cell? ⟨Bx, 1, none⟩ = some (.int .i64 xn) ∧ X.cell? ⟨Bx, 2, none⟩ = some (.slice va vl vc))) := fun X e1 e2 e3 => by
      have d1 := e1.trans cY.out
      have d2 := e2.trans cA.out
      have d3 := e3.trans cB.out
      refine ⟨?_, ?_, ?_, ?_, ?_, ?_, ?_⟩
      · rw [Joins.cell_of_block d1]; rfl
      · rw [Joins.cell_of_block d2]; rfl
      · rw [Joins.cell_of_block d2]; rfl
      · rw [Joins.cell_of_block d2]; rfl
      · rw [Joins.cell_of_block d3]; rfl
      · rw [Joins.cell_of_block d3]; rfl
      · rw [Joins.cell_of_block d3]; rfl
    clear hJ1 hF1 hUU hnF hU hO hOU hp hBb ht hmem gl al hBx hlo1 hlo2 hYl hJ hJx h0 hFr hFU m1 m2 m3 hfit hpre hpt hdone hstop hseq hSs hSr hC hCV bV bU hap eg
    gi_wp2_with fail
    refine tell_reg (l0 := l) (ak := ak) (an := an) (aa := aa) (al := 0) (ac := ac) (bk := xk) (bn := xn) (ba := va) (bl := vl) (bc := vc) (Z := fun v W1 => Os (fun b => W.heap.size ≤ b ∧ b < W1.heap.size) W1 ⟨3, 0, [⟨ak, an, []⟩, x]⟩ v ∧ Below W.heap.size W W1)
      (V1 := fun _ W' => ∃ U', KT (fun b => U b ∨ (False ∧ O b) ∨ lo ≤ b) W W' ∧ (∀ b, U' b → U b ∨ (False ∧ O b) ∨ lo ≤ b) ∧ Bd U' W' ∧ FrI Fr (fun pre2 => J (pre0 ++ pre2.map (fun b => Tr.mk 3 0 [⟨ak, an, []⟩, b]))) (pre ++ [x]) U' W')
      (V2 := fun _ W' => (∃ U', KT (fun b => U b ∨ (False ∧ O b) ∨ lo ≤ b) W W' ∧ (∀ b, U' b → U b ∨ (False ∧ O b) ∨ lo ≤ b) ∧ Bd U' W' ∧ FrI Fr (fun (_ : Unit) U W => ∃ pre, pre <+: XS ∧ Jx pre U W) () U' W') ∧ W'.heap[g1]? = some (.cells #[.bool false] 4 (0, 0))) ?hS ?hc ?hy ?hq
    case hS => exact hSS.out _ rfl rfl rfl
    case hc =>
      refine (times_c ⟨ak, an, []⟩ x _ _ W.drew (Os.od (S := fun _ => True) _ _ (Os.leaf hfH.out)) (Os.od (S := O) _ _ (show Os O W.drew x _ from Os.keep (w := W) (w' := W.drew) (fun _ h => h) (fun _ _ _ => rfl) _ _ htH.out)) (by rw [Pl.pt_leaf]; decide) hpx.out).mono ?_
      rintro e W1 ⟨u, rfl, ou, b1⟩
      have b1' : Below W.heap.size W W1 := (Below.refl _ _).drew.trans b1
      refine ⟨u, rfl, hSS.out _ (b1'.block _ (by have := glH.out; omega)) (b1'.block _ (by have := glH.out; omega)) (b1'.block _ hBlt.out), ?_, b1'⟩
      exact Os.keep2 (fun b hb hl => ⟨hb, hl⟩) (fun _ _ _ => rfl) _ _ ou
    case hy =>
      rintro v W1 ⟨ov, b1⟩
      have hk1 : KT (fun b => lo ≤ b) W W1 := KT.of_below b1
      have hJ2 := hJH.out _ U1 W W1 (fun _ => False) hJ1H.out (KT.of_below b1) (fun _ h => h.elim)
      refine (hYH.out (n - 1 - 1 - 1) _ _ v U1 _ W1 hJ2 ov (fun b hb => hb.2) (fun b hb => by have := hU1.out b hb; have := glH.out; have := b1.size; omega) (fun b hb hu => by have := hU1.out b hu; have := glH.out; have := hb.1; omega) hcont.out).mono ?_
      rintro e W' ⟨U', r, hr⟩
      have kb : ∀ b, b < W.heap.size → ¬ U1 b → W'.heap[b]? = W.heap[b]? := fun b hb hn => (r.kt.block b (Nat.lt_of_lt_of_le hb b1.size) (fun h => by rcases h with h | ⟨_, h⟩; exact hn h; have := h.1; omega)).trans (b1.block b hb)
      have hB8 := glH.out
      have hg1 : g1 < lo := hUH.out _ ((hUUH.out _).2 (.inr ⟨_, mR.out, rfl⟩))
      have hs : _ := hSS.out W' (kb _ (by omega) (hnFH.out _ mY.out)) (kb _ (by omega) (hnFH.out _ mA.out)) (kb _ hBlt.out (fun h => by have := hU1.out _ h; omega))
      refine ⟨?_, hs⟩
      rcases hr with ⟨rfl, hJ3⟩ | ⟨rfl, hJ3⟩
      · refine .inl ⟨rfl, FrI.next hF1H.out hUUH.out hnFH.out hk1 hUH.out (fun b hb => by have := hb.1; omega) (by have := b1.size; omega) r ?_⟩
        rw [List.map_append, ← List.append_assoc]; exact hJ3
      · exact .inr ⟨rfl, FrI.next hF1H.out hUUH.out hnFH.out hk1 hUH.out (fun b hb => by have := hb.1; omega) (by have := b1.size; omega) r ⟨_, hcont.out, hJ3⟩, (kb _ (by omega) (hnFH.out _ mR.out)).trans cR.out⟩
    case hq =>
      rintro v b W' (⟨rfl, h1⟩ | ⟨rfl, h1⟩)
      · have h1H : Hid _ := h1
        clear h1
        simp only [Exit.then]
        rename_i hKK
        refine hKK _ _ ?_
        clear hKK
        gi_wp2
        exact h1H.out
      · obtain ⟨h1, hR⟩ := h1
        have cz : W'.cell? ⟨g1, 0, none⟩ = some (.bool false) := by rw [Joins.cell_of_block hR]; rfl
        have cf : W'.frozen? ⟨g1, 0, none⟩ = false := Joins.unfrozen_of_block hR 0
        have hsame : Hid (W'.setCell ⟨g1, 0, none⟩ (.bool false) = W') := setCell_same hR
        have h1H : Hid _ := h1
        clear h1 hR
        simp only [Exit.then]
        rename_i hKK
        refine hKK _ _ ?_
        clear hKK
        gi_wp2
        rw [hsame.out]
        obtain ⟨U', q1, q2, q3, q4⟩ := h1H.out
        exact ⟨U', q1, q2, q3, rfl, q4⟩
  case done =>
    rintro U2 V2 W2 q1 qC q2 q3 q4 q5 q6 q7 q8 ⟨U3, h1, h2, h3, h4⟩ q9
    refine hdone U3 V2 W2 ⟨q1, qC, q2, q3, q4, (fun b hb => q5 b ((h3 b).2 (.inl hb))), (fun b hb hu => q6 b hb ((h3 b).2 (.inl hu))), h2, (fun p hp => ⟨h4 p hp, fun hv => q6 _ hv ((h3 _).2 (.inr ⟨p, hp, rfl⟩))⟩), (fun h => q7 ((h3 _).2 (.inl h))), q8, q9⟩ h1
  case stop =>
    rintro c pre U2 V2 W2 _ q1 qC q2 q3 q4 q5 q6 q7 q8 ⟨rfl, U3, h1, h2, h3, h4⟩ q9
    refine wpIn_ret ?_
    exact hstop U3 V2 W2 ⟨q1, qC, q2, q3, q4, (fun b hb => q5 b ((h3 b).2 (.inl hb))), (fun b hb hu => q6 b hb ((h3 b).2 (.inl hu))), h2, (fun p hp => ⟨h4 p hp, fun hv => q6 _ hv ((h3 _).2 (.inr ⟨p, hp, rfl⟩))⟩), (fun h => q7 ((h3 _).2 (.inl h))), q8, q9⟩ h1
end Go.Proofs.YtoaccmblaifnmaaDoor
