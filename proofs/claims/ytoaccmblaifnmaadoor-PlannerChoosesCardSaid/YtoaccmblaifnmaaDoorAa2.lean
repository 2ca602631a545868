/-
  timbremem.Mark: one number for each place; a list of marks.
-/
import Derived.Test.YtoaccmblaifnmaaDoorAa1
import Derived.Maps.AppendAt
import Derived.Deep.RegionHeld3
import Derived.Deep.RegionWith
import Derived.Laws.OwnMore
import Derived.RangeFuncNested
import Derived.RangeFuncBound
import Derived.RangeFuncCalls
import Derived.RangeFuncLeaves
import Derived.RangeFuncBox
import Derived.Shelf.Abstract
import Derived.Shelf.RegionOpen
import Derived.WalkKit
import Derived.OwnWalkIn
import Derived.TacticsInMore
import Derived.LoopNIn
import Derived.LoopIn
namespace Go.Proofs.YtoaccmblaifnmaaDoor
open Flo Go.RowKit

def mkA (i j : Int) : Int := IntKind.u64.wrap (IntKind.u64.wrap ((i + 1) * 11400714819323198485) + IntKind.u64.wrap ((j + 1) * 13787848793156543929))
/-- what Mark answers -/
def mkv (i j : Nat) : Int := wrap64 (wrap64 (IntKind.u64.wrap (bits .xor .u64 (mkA i j) (mkA i j / 536870912) * 10723151780598845931) / 8589934592) + 1)
/-- the marks of a list -/
def mks (t n : Nat) : List Value := (List.range n).map fun j => Value.int .i64 (mkv t j)
theorem mks_len (t n : Nat) : (mks t n).length = n := by simp [mks]
theorem mks_get (t n j : Nat) (h : j < n) : (mks t n)[j]? = some (.int .i64 (mkv t j)) := by simp [mks, h]
theorem mks_snoc (t n : Nat) : mks t (n + 1) = mks t n ++ [.int .i64 (mkv t n)] := by simp [mks, List.range_succ]
end Go.Proofs.YtoaccmblaifnmaaDoor
/-
  timbremem.OwnInts: lists of ints in rows of their own, no two in one row: they can be written over and grown.
-/
namespace Go.Proofs.YtoaccmblaifnmaaDoor
open Flo Go.RowKit

/-- all blocks but those of T lie as they lay -/
structure KT (T : Nat → Prop) (w w' : World) : Prop where
  os : w'.os = w.os
  tape : w'.tape = w.tape
  output : w'.output = w.output
  size : w.heap.size ≤ w'.heap.size
  block : ∀ k, k < w.heap.size → ¬ T k → w'.heap[k]? = w.heap[k]?
theorem KT.refl (T : Nat → Prop) (w : World) : KT T w w := ⟨rfl, rfl, rfl, Nat.le_refl _, fun _ _ _ => rfl⟩
theorem KT.trans {T : Nat → Prop} {a b c : World} (h : KT T a b) (k : KT T b c) : KT T a c :=
  ⟨k.os.trans h.os, k.tape.trans h.tape, k.output.trans h.output, Nat.le_trans h.size k.size, fun x hx hT => (k.block x (Nat.lt_of_lt_of_le hx h.size) hT).trans (h.block x hx hT)⟩
theorem KT.grown {T : Nat → Prop} {w w' : World} {row : Option Nat} (h : w.grownBy w' row) (hr : ∀ b, row = some b → T b) : KT T w w' :=
  ⟨h.os, h.tape, h.output, h.size, fun k hk hT => h.block k hk (fun e => hT (hr k e.symm))⟩
theorem KT.drew {T : Nat → Prop} {a w : World} (h : KT T a w) : KT T a w.drew := ⟨h.os, h.tape, h.output, h.size, h.block⟩
theorem KT.drewN {T : Nat → Prop} {a w : World} (h : KT T a w) (k : Nat) : KT T a (w.drewN k) := ⟨h.os, h.tape, h.output, h.size, h.block⟩
theorem KT.cell {T : Nat → Prop} {w w' : World} (h : KT T w w') {p : Addr} (hp : p.block < w.heap.size) (hT : ¬ T p.block) : w'.cell? p = w.cell? p := World.cell?_of_block (w := w) (h.block p.block hp hT)
/-- one value more onto a row of one's own: in its row, or in a new one, the old one as it was -/
theorem run_app1 {P : Program} (w : World) (t ty e : TypeId) (i : TypeInfo) (z : Value) (bytes : Nat) (ht : P.underlying t = some (.slice e)) (hi : P.info? e = some i) (hz : i.zero = some z)
    (hsize : i.size = 1) (hby : i.bytes = bytes) (hzs : z.cells.size = 1) (base : Nat) (v : Value) (n : Nat) (xs : List Value) (hown : w.ownsRow base e 1 v n xs) (u : Value) (hu : u.oneCell' = true) (a : Addr) (hnew : w.cell? (a.add 0) = some u)
    (h63 : n + 1 ≤ maxLen) (hbytes : (n + 1) * bytes ≤ 140737488355328) (hbase : base ≤ w.heap.size) :
    ∃ v' w', (Builtin.append_ #[t, t] ty #[v, .slice (some a) 1 1]).run P w = .ok v' w' ∧ w'.ownsRow base e 1 v' (n + 1) (xs ++ [u]) ∧
      ((v'.ownBlock = v.ownBlock ∧ w.grownBy w' v.ownBlock) ∨ (v'.ownBlock = some w.heap.size ∧ w.grownBy w' none)) := by
  have hnews : ∀ j u', ([u] : List Value)[j]? = some u' → w.cell? (a.add j) = some u' := fun j u' hj => by
    match j, hj with
    | 0, hj => simp at hj; subst hj; exact hnew
  have hone : ∀ u' ∈ [u], u'.oneCell' = true := fun u' h => by simp at h; subst h; exact hu
  obtain ⟨v', w', hr, ho, hg, hnil, hat⟩ := run_append_own_at (P := P) w base t ty e i z 1 bytes ht hi hz hsize hby hzs (by decide) v n xs hown a 1 1 [u] rfl hnews hone h63 hbytes hbase
  refine ⟨v', w', hr, ho, ?_⟩
  rcases hown.2 with ⟨rfl, rfl⟩ | ⟨g, cap, cur, rfl, hbg, hgc, hnc, hcm, hcs, htake⟩
  · rcases hat with h | h
    · exact Or.inl ⟨h, hg⟩
    · exact Or.inr ⟨h, hg⟩
  · by_cases hroom : n + 1 ≤ cap
    · have hr2 := run_append_room (P := P) w t ty e i ht hi g n cap cur hgc a 1 1 [u] (by rw [hsize]; rfl) hnews hone hroom (by rw [hsize]; simp; omega)
      rw [hr] at hr2
      simp only [Result.ok.injEq] at hr2
      obtain ⟨rfl, rfl⟩ := hr2
      exact Or.inl ⟨rfl, hg⟩
    · have hr2 := run_append_grow (P := P) w t ty e i z ht hi hz ⟨g, 0, none⟩ n cap xs (by rw [hown.1, hsize]) (hown.cells (g := g) rfl) a 1 1 [u] (by rw [hsize]; rfl) hnews (by omega) (by simp only [maxLen] at h63; omega) (growslice_fits (by omega) (by rw [hby]; exact hbytes))
      rw [hr] at hr2
      simp only [Result.ok.injEq] at hr2
      obtain ⟨rfl, rfl⟩ := hr2
      exact Or.inr ⟨rfl, ⟨rfl, rfl, rfl, by simp, fun k hk _ => Below.heap_alloc w.drew _ k hk⟩⟩
/-- lists in rows of their own, no two in one row -/
structure LsI (w : World) (m : Nat) (vs : Nat → Value) (ns : Nat → Nat) (ls : Nat → List Value) : Prop where
  row : ∀ t, t < m → w.ownsRow 0 3 1 (vs t) (ns t) (ls t)
  ap : ∀ t u b, t < m → u < m → t ≠ u → (vs t).ownBlock = some b → (vs u).ownBlock ≠ some b
/-- one of them turned -/
def upd {α : Type} (f : Nat → α) (i : Nat) (x : α) : Nat → α := fun t => if t = i then x else f t
theorem upd_same {α : Type} (f : Nat → α) (i : Nat) (x : α) : upd f i x i = x := if_pos rfl
theorem upd_ne {α : Type} (f : Nat → α) {i t : Nat} (x : α) (h : t ≠ i) : upd f i x t = f t := if_neg h
theorem LsI.turn {w w' : World} {m : Nat} {vs : Nat → Value} {ns : Nat → Nat} {ls : Nat → List Value} (h : LsI w m vs ns ls) (i : Nat) (hi : i < m) (v : Value) (n : Nat) (l : List Value) (ho : w'.ownsRow 0 3 1 v n l)
    (hg : (v.ownBlock = (vs i).ownBlock ∧ w.grownBy w' (vs i).ownBlock) ∨ (v.ownBlock = some w.heap.size ∧ w.grownBy w' none)) : LsI w' m (upd vs i v) (upd ns i n) (upd ls i l) := by
  have hlt : ∀ t b, t < m → (vs t).ownBlock = some b → b < w.heap.size := fun t b ht hb => ((h.row t ht).lt b hb).2
  refine ⟨fun t ht => ?_, fun t u b ht hu htu hb => ?_⟩
  · by_cases e : t = i
    · subst e; rw [upd_same, upd_same, upd_same]; exact ho
    · rw [upd_ne vs v e, upd_ne ns n e, upd_ne ls l e]
      rcases hg with ⟨_, hg⟩ | ⟨_, hg⟩
      · refine (h.row t ht).kept hg ?_
        cases hb : (vs t).ownBlock with
        | none => exact .inl rfl
        | some b => exact .inr (fun c => h.ap t i b ht hi e hb c.symm)
      · refine (h.row t ht).kept hg ?_
        cases hb : (vs t).ownBlock with
        | none => exact .inl rfl
        | some b => exact .inr (fun c => by cases c)
  · by_cases e : t = i
    · subst e
      rw [upd_same] at hb
      rw [upd_ne vs v (fun c => htu c.symm)]
      rcases hg with ⟨hv, _⟩ | ⟨hv, _⟩
      · rw [hv] at hb; exact h.ap t u b ht hu htu hb
      · rw [hv] at hb
        intro c
        have := hlt u b hu c
        simp at hb
        omega
    · rw [upd_ne vs v e] at hb
      by_cases e2 : u = i
      · subst e2
        rw [upd_same]
        rcases hg with ⟨hv, _⟩ | ⟨hv, _⟩
        · rw [hv]; exact h.ap t u b ht hu htu hb
        · rw [hv]
          intro c
          have := hlt t b ht hb
          simp at c
          omega
      · rw [upd_ne vs v e2]; exact h.ap t u b ht hu htu hb
end Go.Proofs.YtoaccmblaifnmaaDoor
/-
  A loop over an iterator that has blocks of its own (a row that it writes between two rounds, a loop within it): what its contract says, and the law for the caller.
-/
namespace Go.Proofs.YtoaccmblaifnmaaDoor
open Flo Go.RowKit Go.Shelf

/-- it abides new blocks, and whatever becomes of the blocks from B to C -/
def AbX {β : Type} (B C : Nat) (J : β → World → Prop) : Prop := ∀ s W W' row, J s W → W.grownBy W' row → (∀ r, row = some r → B ≤ r ∧ r ≤ C) → J s W'
theorem AbX.alloc {β : Type} {B C : Nat} {J : β → World → Prop} (h : AbX B C J) {s : β} {W : World} (hs : J s W) (o : Obj) : J s (W.alloc o) := h s W _ none hs (World.grownBy_alloc W o none) (fun _ e => by cases e)
theorem AbX.put {β : Type} {B C : Nat} {J : β → World → Prop} (h : AbX B C J) {s : β} {W : World} (hs : J s W) {l : Nat} (o : Obj) (h1 : B ≤ l) (h2 : l ≤ C) : J s (W.putObj l o) := h s W _ (some l) hs (grownBy_putObj' W l o) (fun r e => by cases e; exact ⟨h1, h2⟩)
theorem AbX.narrow {β : Type} {B C B' C' : Nat} {J : β → World → Prop} (h : AbX B C J) (h1 : B ≤ B') (h2 : C' ≤ C) : AbX B' C' J := fun s W W' row hs hg hr => h s W W' row hs hg fun r e => by have := hr r e; omega
/-- the blocks from B to C lie as they lay -/
def KB (B C : Nat) (W W' : World) : Prop := ∀ b, B ≤ b → b ≤ C → b < W.heap.size → W'.heap[b]? = W.heap[b]?
theorem KT.kb {T : Nat → Prop} {B C : Nat} {W W' : World} (h : KT T W W') (hT : ∀ b, B ≤ b → b ≤ C → ¬ T b) : KB B C W W' := fun b h1 h2 h3 => h.block b h3 (hT b h1 h2)
/-- the contract of an iterator that is entered with B blocks and has the blocks from B to C for its own; T: what a round may touch; R x W0 W1: x is handed over in W1, W0 being the world in which the rounds' word held last -/
def SeqX {α : Type} (F : Fence) (n : Nat) (P : Program) (g : Nat) (lb : Array Value) (encs : α → Array Value) (B C : Nat) (T : Nat → Prop) (R : α → World → World → Prop) (Pp : List α → α → Prop) (S Sp : List α → Prop) (w : World) : Prop :=
  ∀ (l : Nat) (J Jx : List α → World → Prop) (W : World), Below w.heap.size w W → W.heap.size = B → AbX B C J → AbX B C Jx →
    (∀ pre x W0 W1, J pre W0 → C < W0.heap.size → R x W0 W1 → Pp pre x → YieldAt F (n - 1) P l (encs x) W1 fun e W' =>
      (e = .returned (.bool true) ∧ J (pre ++ [x]) W' ∧ KT T W1 W') ∨ (e = .returned (.bool false) ∧ Jx (pre ++ [x]) W' ∧ KB B C W1 W')) →
    J [] W →
    CallsIn F n P g (#[.func (.yield l) #[] #[]] ++ lb) W fun e W' => (∃ v, e = .returned v) ∧ ((∃ xs, S xs ∧ J xs W') ∨ (∃ pre, Sp pre ∧ Jx pre W'))
/-- how a round may be left -/
def xPost {α : Type} (T : Nat → Prop) (D C : Nat) (I : List α → World → Prop) (Ix : Code → List α → World → Prop) (xs : List α) (W : World) : Exit → Act → World → Prop
  | .normal, _, W' => KT T W W' ∧ I xs W'
  | .ret, _, W' => KB D C W W' ∧ Ix .ret xs W'
  | .exit id, _, W' => KB D C W W' ∧ Ix (.exit id) xs W'
  | .goto t, _, W' => KB D C W W' ∧ Ix (.goto t) xs W'
  | .panic _, _, _ => False
  | .outgrown, _, _ => False
theorem putObj_size (W : World) (l : Nat) (o : Obj) : (W.putObj l o).heap.size = W.heap.size := by simp [World.putObj]
/-- a block is turned, and turned back behind a round -/
theorem KT.round {T : Nat → Prop} {W1 W3 : World} {l : Nat} {o1 o2 : Obj} (hl : W1.heap[l]? = some o1) (h : KT T (W1.putObj l o2) W3) : KT T W1 (W3.putObj l o1) := by
  have hlt := (Array.getElem?_eq_some_iff.1 hl).1
  have hs := h.size
  rw [putObj_size] at hs
  refine ⟨h.os, h.tape, h.output, by rw [putObj_size]; exact hs, fun k hk hT => ?_⟩
  by_cases e : k = l
  · subst e
    rw [World.putObj_heap_same (by omega), hl]
  · rw [World.putObj_heap_other e, h.block k (by rw [putObj_size]; exact hk) hT, World.putObj_heap_other e]
variable {F : Fence} {n : Nat} {P : Program}
/-- the law for the caller -/
theorem range_own {α : Type} {g : Operand} {ps : Array Tmp} {assign body : Code} {Q : Exit → Act → World → Prop} {a : Act} {w : World}
    (hro : F.round = none) (h1 : 1 ≤ n) {gf : Nat} {lb : Array Value} (hg : a.eval g = .func (.func gf) #[] lb) (hFg : F.fn gf) (eg : ∀ args w, (callFunc gf args).run P w = .ok (.enter gf args) w)
    {encs : α → Array Value} {C : Nat} {T : Nat → Prop} {R : α → World → World → Prop} {Pp : List α → α → Prop} {S Sp : List α → Prop} {w0 : World}
    (hseq : SeqX F (n - 1) P gf lb encs (w.heap.size + 2) C T R Pp S Sp w0) (hb0 : Below w0.heap.size w0 w) (hps : ∀ x, (encs x).size = ps.size)
    (hC : w.heap.size + 2 ≤ C) (hT : ∀ b, w.heap.size ≤ b → b ≤ C → ¬ T b)
    (hR : ∀ x W0 W1 l o, R x W0 W1 → l < W0.heap.size → R x (W0.putObj l o) (W1.putObj l o)) (hRl : ∀ x W0 W1 l, R x W0 W1 → l < W0.heap.size → W1.heap[l]? = W0.heap[l]?)
    (I : List α → World → Prop) (Ix : Code → List α → World → Prop) (hI : AbX w.heap.size C I) (hIx : ∀ c, AbX w.heap.size C (Ix c)) (h0 : I [] w) (a₁ : α → Act)
    (hassign : ∀ (l : Nat) (x : α) (W : World) (K : Act → World → Prop), K (a₁ x) W →
      assign.wpIn (F.inRound l) (n - 1 - 1) P (Exit.then K (fun _ _ _ => False)) { tmps := (ps.zip (encs x)).foldl (fun t (p, v) => t.setIfInBounds p v) a.tmps, defers := [] } W)
    (hbody : ∀ (l : Nat) (pre : List α) (x : α) (W0 W : World), I pre W0 → C < W0.heap.size → R x W0 W → Pp pre x → body.wpIn (F.inRound l) (n - 1 - 1) P (xPost T w.heap.size C I Ix (pre ++ [x]) W) (a₁ x) W)
    (hdone : ∀ (xs : List α) (W : World), S xs → I xs W → W.heap[w.heap.size]? = some (.deferred (some [])) → Q .normal { a with defers := { target := .collected w.heap.size, args := #[] } :: a.defers } W)
    (hstop : ∀ (c : Code) (pre : List α) (W : World), Sp pre → Ix c pre W → W.heap[w.heap.size]? = some (.deferred (some [])) → c.wpIn F n P Q { a with defers := { target := .collected w.heap.size, args := #[] } :: a.defers } W) :
    (Code.rangeFunc g ps assign body).wpIn F n P Q a w := by
  obtain ⟨D, hD⟩ : ∃ D, w.heap.size = D := ⟨_, rfl⟩
  refine wpIn_rangeFunc fun fn hfn => ?_
  rw [hro]
  let rec_ : LoopState → Option Code → Loop := fun st pe => { state := st, pending := pe, fn, tmps := a.tmps, params := ps, assign, body, defers := D }
  obtain ⟨V, hV⟩ : ∃ V, (w.alloc (.deferred (some []))).alloc (.loop (rec_ .ready none)) = V := ⟨_, rfl⟩
  have hVs : V.heap.size = D + 2 := by rw [← hV, World.size_alloc, World.size_alloc, hD]
  have hVl : V.heap[D + 1]? = some (.loop (rec_ .ready none)) := by
    have := World.alloc_heap_new (w.alloc (.deferred (some []))) (.loop (rec_ .ready none))
    rw [World.size_alloc, hD, hV] at this; exact this
  have hVd : V.heap[D]? = some (.deferred (some [])) := by
    have := World.alloc_heap_new w (.deferred (some []))
    rw [hD] at this
    rw [← hV, Below.heap_alloc _ _ _ (by rw [World.size_alloc]; omega)]; exact this
  have hVI : I [] V := by rw [← hV]; exact hI.alloc (hI.alloc h0 _) _
  have hVb : Below w0.heap.size w0 V := by
    rw [← hV]; exact (hb0.alloc hb0.size _).alloc (by rw [World.size_alloc]; have := hb0.size; omega) _
  rw [hD] at hseq hC hT hI hIx hbody
  refine ⟨D + 1, [{ target := .collected D, args := #[] }], V, { target := .fn (.func gf) lb, args := #[.func (.yield (D + 1)) #[] #[]] }, V, gf, #[.func (.yield (D + 1)) #[] #[]] ++ lb, V, ?_, ?_, ?_, ?_, fun _ => h1, ?_⟩
  · rw [run_enterLoop_outer, ← hV, hD]
  · simp only [resolve, hg]; simp [go_sem]
  · intro f' hf'; simp [Target.leads] at hf'; subst hf'; exact hFg
  · simp [invoke, go_sem, eg]
  have keep : ∀ {s : List α} {A A' : World} {row : Option Nat} {r : Loop}, A.grownBy A' row → (∀ r, row = some r → D + 2 ≤ r ∧ r ≤ C) → A.heap[D + 1]? = some (.loop r) ∧ A.heap[D]? = some (.deferred (some [])) → A'.heap[D + 1]? = some (.loop r) ∧ A'.heap[D]? = some (.deferred (some [])) := by
    intro s A A' row r hgr hr ⟨e1, e2⟩
    exact ⟨(hgr.block _ (Array.getElem?_eq_some_iff.1 e1).1 fun e => by have := hr _ e.symm; omega).trans e1, (hgr.block _ (Array.getElem?_eq_some_iff.1 e2).1 fun e => by have := hr _ e.symm; omega).trans e2⟩
  refine (hseq (D + 1) (fun pre W => I pre W ∧ W.heap[D + 1]? = some (.loop (rec_ .ready none)) ∧ W.heap[D]? = some (.deferred (some [])))
    (fun pre W => ∃ c, Ix c pre W ∧ W.heap[D + 1]? = some (.loop (rec_ .done (some c))) ∧ W.heap[D]? = some (.deferred (some [])))
    V hVb hVs (fun s A A' row hs hgr hr => ⟨hI s A A' row hs.1 hgr fun r e => by have := hr r e; omega, keep (s := s) hgr hr hs.2⟩)
    (fun s A A' row hs hgr hr => by
      obtain ⟨c, hc, hk⟩ := hs
      exact ⟨c, hIx c s A A' row hc hgr fun r e => by have := hr r e; omega, keep (s := s) hgr hr hk⟩) ?_ ⟨hVI, hVl, hVd⟩).mono ?_
  · rintro pre x W0 W1 ⟨hi, hl0, hk0⟩ hCs hRx hlen
    have hs0 : D + 1 < W0.heap.size := by omega
    have hl : W1.heap[D + 1]? = some (.loop (rec_ .ready none)) := (hRl x W0 W1 _ hRx hs0).trans hl0
    have hk : W1.heap[D]? = some (.deferred (some [])) := (hRl x W0 W1 _ hRx (by omega)).trans hk0
    have hs1 : D + 1 < W1.heap.size := (Array.getElem?_eq_some_iff.1 hl).1
    refine ⟨fn, _, assign, body, run_yield (P := P) (args := encs x) hl (hps x), roundIn_of_wpIn hfn (hassign _ x W1 _ ⟨_, run_beginRound hl rfl, ?_⟩)⟩
    have hi2 : I pre (W0.putObj (D + 1) (.loop { rec_ .ready none with state := .busy })) := hI.put hi _ (by omega) (by omega)
    refine wpIn_mono (hbody (D + 1) pre x _ _ hi2 (by rw [putObj_size]; exact hCs) (hR x W0 W1 _ _ hRx hs0) hlen) ?_
    have fin : ∀ (jump : Option Code) (W3 : World), KB D C (W1.putObj (D + 1) (.loop { rec_ .ready none with state := .busy })) W3 →
        (Instr.endRound (D + 1) jump).run P W3 = .ok (.bool jump.isNone) (W3.putObj (D + 1) (.loop (rec_ (if jump.isNone then .ready else .done) jump))) ∧
        (W3.putObj (D + 1) (.loop (rec_ (if jump.isNone then .ready else .done) jump))).heap[D + 1]? = some (.loop (rec_ (if jump.isNone then .ready else .done) jump)) ∧
        (W3.putObj (D + 1) (.loop (rec_ (if jump.isNone then .ready else .done) jump))).heap[D]? = some (.deferred (some [])) := fun jump W3 hkt => by
      have l2 : W3.heap[D + 1]? = some (.loop { rec_ .ready none with state := .busy }) := (hkt _ (by omega) (by omega) (by rw [putObj_size]; exact hs1)).trans (World.putObj_heap_same hs1)
      have k2 : W3.heap[D]? = some (.deferred (some [])) := (hkt _ (by omega) (by omega) (by rw [putObj_size]; omega)).trans ((World.putObj_heap_other (by omega)).trans hk)
      exact ⟨run_endRound (P := P) jump l2, World.putObj_heap_same (Array.getElem?_eq_some_iff.1 l2).1, (World.putObj_heap_other (by omega)).trans k2⟩
    have kbb : ∀ (W3 : World) (o : Obj), KB D C (W1.putObj (D + 1) (.loop { rec_ .ready none with state := .busy })) W3 → KB (D + 2) C W1 (W3.putObj (D + 1) o) := fun W3 o hk3 b h1 h2 h3 => by
      rw [World.putObj_heap_other (by omega), hk3 b (by omega) h2 (by rw [putObj_size]; exact h3), World.putObj_heap_other (by omega)]
    rintro e a3 W3 hp
    cases e with
    | normal =>
      obtain ⟨hkt, hi3⟩ := hp
      obtain ⟨f1, f2, f3⟩ := fin none W3 (hkt.kb hT)
      exact ⟨_, _, f1, .inl ⟨rfl, ⟨hI.put hi3 _ (by omega) (by omega), f2, f3⟩, hkt.round hl⟩⟩
    | ret =>
      obtain ⟨hkt, hi3⟩ := hp
      obtain ⟨f1, f2, f3⟩ := fin (some .ret) W3 hkt
      exact ⟨_, _, f1, .inr ⟨rfl, ⟨.ret, (hIx _).put hi3 _ (by omega) (by omega), f2, f3⟩, kbb W3 _ hkt⟩⟩
    | exit id =>
      obtain ⟨hkt, hi3⟩ := hp
      obtain ⟨f1, f2, f3⟩ := fin (some (.exit id)) W3 hkt
      exact ⟨_, _, f1, .inr ⟨rfl, ⟨.exit id, (hIx _).put hi3 _ (by omega) (by omega), f2, f3⟩, kbb W3 _ hkt⟩⟩
    | goto t =>
      obtain ⟨hkt, hi3⟩ := hp
      obtain ⟨f1, f2, f3⟩ := fin (some (.goto t)) W3 hkt
      exact ⟨_, _, f1, .inr ⟨rfl, ⟨.goto t, (hIx _).put hi3 _ (by omega) (by omega), f2, f3⟩, kbb W3 _ hkt⟩⟩
    | panic ch => exact hp.elim
    | outgrown => exact hp.elim
  · rintro e W2 ⟨⟨v, rfl⟩, (⟨xs, hS, hi, hl, hk⟩ | ⟨pre, hSp, c, hi, hl, hk⟩)⟩
    · have hq := hdone xs (W2.putObj (D + 1) (.loop { rec_ .ready none with state := .exhausted })) hS (hI.put hi _ (by omega) (by omega)) (by rw [hD, World.putObj_heap_other (by omega)]; exact hk)
      rw [hD] at hq
      exact ⟨none, _, run_endLoop (P := P) hl (by simp [rec_]), hq⟩
    · have hq := hstop c pre (W2.putObj (D + 1) (.loop { rec_ .done (some c) with state := .exhausted })) hSp ((hIx c).put hi _ (by omega) (by omega)) (by rw [hD, World.putObj_heap_other (by omega)]; exact hk)
      rw [hD] at hq
      exact ⟨some c, _, run_endLoop (P := P) hl (by simp [rec_]), hq⟩
/-- a round is what it is, however deep -/
theorem yield_any (hd : F.depth = none) {m : Nat} (m' : Nat) {l : Nat} {args : Array Value} {W : World} {R : Ending → World → Prop} (h : YieldAt F m P l args W R) : YieldAt F m' P l args W R := by
  obtain ⟨fn, tmps, assign, body, hy, hF, hr⟩ := h
  refine ⟨fn, tmps, assign, body, hy, hF, fun c cs _ => hr c cs ?_⟩
  intro d e
  rw [hd] at e
  cases e
end Go.Proofs.YtoaccmblaifnmaaDoor
/-
  A region that draws its order, inside a fence: a load whose cell nobody of the region writes is taken at once.
-/
namespace Go.Proofs.YtoaccmblaifnmaaDoor
open Flo Go.RowKit Go.Shelf
section
variable {F : Fence} {n : Nat} {P : Program} {ops : Array Oper} {Q : Exit → Act → World → Prop} {md : Region.Mode} {S : World → Prop}
theorem anyIn_rnd (l : Nat) (hro : F.round = none) (hd : ∀ (i : Nat) (o : Oper), ops[i]? = some o → ∀ c, o.op ≠ .defer c) :
    ∀ (fuel : Nat) (listed : Array Bool) (a : Act) (w : World), wpAnyIn F n P md ops Q fuel listed a w → wpAnyIn (F.inRound l) n P md ops Q fuel listed a w
  | 0, _, _, _, h => h
  | fuel + 1, listed, a, w, h => by
    refine ⟨h.1, fun i hi => ?_⟩
    have h2 := wpOpIn_mono (fun a w => anyIn_rnd l hro hd fuel (listed.setIfInBounds i true) a w) (h.2 i hi)
    unfold wpOpIn at h2 ⊢
    cases ho : ops[i]? with
    | none => rw [ho] at h2; exact h2
    | some o =>
      rw [ho] at h2
      simp only at h2 ⊢
      by_cases hw : Region.wanted o (yielded ops a.tmps) = true
      · rw [if_pos hw] at h2 ⊢
        refine ⟨h2.1, ?_⟩
        have h3 := h2.2
        rw [Oper.semAt_eq _ _ o (hd i o ho)] at h3 ⊢
        exact h3
      · rw [if_neg hw] at h2 ⊢
        exact h2
theorem region_rnd (l : Nat) (hro : F.round = none) (hd : ∀ (i : Nat) (o : Oper), ops[i]? = some o → ∀ c, o.op ≠ .defer c) {id : Nat} {a : Act} {w : World} (hm : P.follows .mixedOrders = true)
    (h : wpAnyIn F n P .any ops Q ops.size (Array.replicate ops.size false) a w.drew) : (Code.region id ops true).wpIn (F.inRound l) n P Q a w :=
  wpIn_region_any hm (anyIn_rnd l hro hd _ _ _ _ h)
def noDf (ops : Array Oper) : Bool := ops.all fun o => match o.op with
  | .defer _ => false
  | _ => true
theorem noDf_iff {ops : Array Oper} (h : noDf ops = true) (i : Nat) (o : Oper) (ho : ops[i]? = some o) (c : Call) : o.op ≠ .defer c := fun e => by
  obtain ⟨hi, rfl⟩ := Array.getElem?_eq_some_iff.1 ho
  have := Array.all_eq_true.1 h i hi
  rw [e] at this
  cases this
/-- whichever order is drawn; S holds behind each operation -/
def HIn (F : Fence) (n : Nat) (P : Program) (md : Region.Mode) (ops : Array Oper) (Q : Exit → Act → World → Prop) (S : World → Prop) : Nat → Array Bool → Act → World → Prop
  | 0, ls, a, w => Region.ready md ops ls = [] ∧ Q .normal a w
  | m + 1, ls, a, w => (Region.ready md ops ls = [] → Q .normal a w) ∧ ∀ i ∈ Region.ready md ops ls, wpOpIn F n P ops Q i (fun a' w' => S w' ∧ HIn F n P md ops Q S m (ls.setIfInBounds i true) a' w') a w
theorem HIn.any : ∀ (m : Nat) (ls : Array Bool) (a : Act) (w : World), HIn F n P md ops Q S m ls a w → wpAnyIn F n P md ops Q m ls a w
  | 0, _, _, _, h => h
  | m + 1, _, _, _, h => ⟨h.1, fun i hi => wpOpIn_mono (fun a' w' k => HIn.any m _ a' w' k.2) (h.2 i hi)⟩
/-- the operation yields v wherever S holds, and makes no call -/
structure Gives (P : Program) (ops : Array Oper) (S : World → Prop) (o : Oper) (v : Value) (a : Act) : Prop where
  mute : ∀ w, o.about P w a.eval = none
  val : (Region.wanted o (yielded ops a.tmps) = true ∧ ∀ w, S w → (execOp a.eval o).run P w = .ok (.value v) w) ∨ (Region.wanted o (yielded ops a.tmps) = false ∧ v = undef)
theorem Gives.now {i : Nat} {o : Oper} {v : Value} {a : Act} (hro : F.round = none) (hi : ops[i]? = some o) (g : Gives P ops S o v a) {K : Act → World → Prop} {w : World} (hS : S w) (h : K (a.put o.dst v) w) : wpOpIn F n P ops Q i K a w := by
  have q : ∀ f, o.about P w a.eval = some f → F.fn f := fun f e => by rw [g.mute w] at e; cases e
  unfold wpOpIn
  rw [hi]
  show if _ then _ else _
  rcases g.val with ⟨h1, h2⟩ | ⟨h1, rfl⟩
  · rw [if_pos h1]
    refine ⟨q, ?_⟩
    rw [hro, Oper.semAt_none, h2 w hS]
    exact h
  · rw [if_neg (by rw [h1]; decide)]
    exact ⟨q, h⟩
theorem Gives.past {o o' : Oper} {v : Value} {a : Act} (hs : ∀ cs b, o.op ≠ .select cs b) (hd : ∀ d, o'.dst = some d → d ∉ o.looksAt ops) (g : Gives P ops S o v a) (u : Value) : Gives P ops S o v (a.put o'.dst u) := by
  refine ⟨fun w => (about_put o w a o'.dst u hd).trans (g.mute w), ?_⟩
  have e1 := execOp_put o hs a o'.dst u hd
  have e2 := wanted_put o a o'.dst u hd
  rw [e1, e2]
  exact g.val
/-- another operation doesn't see whether v is there already -/
theorem Gives.other {j : Nat} {o o' : Oper} {v : Value} (hro : F.round = none) (hj : ops[j]? = some o') (hap : o.apart ops o' = true) (hs : ∀ cs b, o.op ≠ .select cs b) (hs' : ∀ cs b, o'.op ≠ .select cs b)
    (hQ : ∀ c a w, Q (.panic c) (a.put o.dst v) w → Q (.panic c) a w) {K : Act → World → Prop} {a : Act} {w : World} (g : Gives P ops S o v a) (h : wpOpIn F n P ops Q j K (a.put o.dst v) w) :
    wpOpIn F n P ops Q j (fun a' w' => Gives P ops S o v a' ∧ K (a'.put o.dst v) w') a w := by
  obtain ⟨p1, p2, p3⟩ := Oper.apart_spec hap
  have go : ∀ u, Gives P ops S o v (a.put o'.dst u) := fun u => g.past hs p3 u
  have sw : ∀ u, (a.put o'.dst u).put o.dst v = (a.put o.dst v).put o'.dst u := fun u => (Act.put_comm a v u p2).symm
  unfold wpOpIn at h ⊢
  rw [hj] at h ⊢
  simp only at h ⊢
  rw [wanted_put o' a o.dst v p1, about_put o' w a o.dst v p1] at h
  by_cases hw : Region.wanted o' (yielded ops a.tmps) = true
  · rw [if_pos hw] at h ⊢
    unfold Oper.wpIn at h ⊢
    rw [hro, Oper.semAt_none] at h ⊢
    rw [about_put o' w a o.dst v p1, execOp_put o' hs' a o.dst v p1] at h
    refine ⟨h.1, ?_⟩
    have h' := h.2
    clear h
    generalize (execOp a.eval o').run P w = r at h' ⊢
    cases r with
    | ok x w' =>
      cases x with
      | value u => exact ⟨go u, by rw [sw]; exact h'⟩
      | skip => exact ⟨go _, by rw [sw]; exact h'⟩
      | enter f args => exact ⟨h'.1, CallsIn.mono h'.2 fun e w2 k => by cases e with | returned u => exact ⟨go u, by rw [sw]; exact k⟩ | panicked c => exact hQ _ _ _ k | outgrown => exact k⟩
      | row r args => exact ⟨h'.1, RowsIn.mono h'.2 fun u w2 k => ⟨go u, by rw [sw]; exact k⟩⟩
      | round l f t s1 b => exact ⟨h'.1, RoundIn.mono h'.2 fun e w2 k => by cases e with | returned u => exact ⟨go u, by rw [sw]; exact k⟩ | panicked c => exact hQ _ _ _ k | outgrown => exact k⟩
      | defer d =>
        refine ⟨?_, ?_⟩
        · have g' : Gives P ops S o v { a with defers := d :: a.defers } := ⟨g.mute, g.val⟩
          exact g'.past hs p3 undef
        · have := Act.put_comm { a with defers := d :: a.defers } v undef p2
          rw [← this, ← Act.put_defers]
          exact h'
      | _ => exact h'
    | halt x w' =>
      cases x with
      | panic u => exact hQ _ _ _ h'
      | _ => exact h'
  · rw [if_neg hw] at h ⊢
    exact ⟨h.1, go _, by rw [sw]; exact h.2⟩
theorem HIn.first {i : Nat} {o : Oper} {v : Value} (hro : F.round = none) (hi : ops[i]? = some o) (hsel : ∀ (j : Nat) (o : Oper) cs b, ops[j]? = some o → o.op ≠ .select cs b)
    (hQ : ∀ c a w, Q (.panic c) (a.put o.dst v) w → Q (.panic c) a w) :
    ∀ (m : Nat) (ls : Array Bool) (a : Act) (w : World), (∀ j o', ops[j]? = some o' → j ≠ i → ls.getD j true = false → (∀ e ∈ o'.after, Region.binds md e = true → e.on ≠ i) → o.apart ops o' = true) →
      i ∈ Region.ready md ops ls → Gives P ops S o v a → S w → HIn F n P md ops Q S m (ls.setIfInBounds i true) (a.put o.dst v) w → HIn F n P md ops Q S (m + 1) ls a w := by
  intro m
  induction m with
  | zero =>
    intro ls a w _ hr g hS H
    refine ⟨(fun e => by rw [e] at hr; cases hr), fun j hj => ?_⟩
    rcases Nat.decEq j i with hn | rfl
    · have := ready_mono hj hn
      rw [H.1] at this
      cases this
    · exact g.now hro hi hS ⟨hS, H⟩
  | succ m ih =>
    intro ls a w free hr g hS H
    refine ⟨(fun e => by rw [e] at hr; cases hr), fun j hj => ?_⟩
    rcases Nat.decEq j i with hn | rfl
    · obtain ⟨u1, o', ho, u2⟩ := mem_ready.1 hj
      have u3 : ∀ e ∈ o'.after, Region.binds md e = true → e.on ≠ i := fun e he hb q => by
        have k1 := u2 e he hb
        have k0 := (mem_ready.1 hr).1
        rw [q] at k1
        by_cases hl : i < ls.size
        · simp [hl] at k0 k1; rw [k0] at k1; cases k1
        · simp [Array.getElem?_eq_none (Nat.le_of_not_lt hl)] at k1
      have h2 := g.other hro ho (free j o' ho hn u1 u3) (hsel i o · · hi) (hsel j o' · · ho) hQ (H.2 j (ready_mono hj hn))
      refine wpOpIn_mono (fun a' w' k => ⟨k.2.1, ih (ls.setIfInBounds j true) a' w' (fun k' o2 h1 h2 h3 h4 => free k' o2 h1 h2 ?_ h4) (ready_mono hr (Ne.symm hn)) k.1 k.2.1 ?_⟩) h2
      · by_cases q : j = k'
        · subst q; exact u1
        · rw [getD_set_ne true q] at h3; exact h3
      · rw [Array.setIfInBounds_comm _ _ hn]; exact k.2.2
    · exact g.now hro hi hS ⟨hS, H⟩
theorem HIn.take {i : Nat} {o : Oper} {v : Value} {m : Nat} {ls : Array Bool} {a : Act} {w : World} (hi : ops[i]? = some o) (hro : F.round = none)
    (hs : Region.noSelect ops = true) (hf : Region.free md ops ls i = true) (hr : (Region.ready md ops ls).contains i = true)
    (hQ : ∀ c a w, Q (.panic c) (a.put o.dst v) w → Q (.panic c) a w) (g : Gives P ops S o v a) (hS : S w)
    (h : HIn F n P md ops Q S m (ls.setIfInBounds i true) (a.put o.dst v) w) : HIn F n P md ops Q S (m + 1) ls a w :=
  HIn.first hro hi (Region.noSelect_spec hs) hQ m ls a w (Region.free_spec hi hf) (by simpa using hr) g hS h
/-- one alone may come up -/
theorem HIn.one {i : Nat} {o : Oper} {m : Nat} {ls : Array Bool} {a : Act} {w : World} (hi : ops[i]? = some o) (hr : Region.ready md ops ls = [i])
    (h : ∀ K : Act → World → Prop, (∀ a w, S w → HIn F n P md ops Q S m (ls.setIfInBounds i true) a w → K a w) → if Region.wanted o (yielded ops a.tmps) = true then Oper.wpIn F n P o a w K Q else (∀ f, o.about P w a.eval = some f → F.fn f) ∧ K (a.put o.dst undef) w) : HIn F n P md ops Q S (m + 1) ls a w := by
  refine ⟨(fun e => by rw [hr] at e; cases e), fun j hj => ?_⟩
  rw [hr, List.mem_singleton] at hj
  subst hj
  unfold wpOpIn
  rw [hi]
  exact h _ fun a w h1 h2 => ⟨h1, h2⟩
theorem HIn.done {ls : Array Bool} {a : Act} {w : World} (hr : Region.ready md ops ls = []) (h : Q .normal a w) : ∀ m, HIn F n P md ops Q S m ls a w
  | 0 => ⟨hr, h⟩
  | _ + 1 => ⟨fun _ => h, by rw [hr]; intro i hi; cases hi⟩
/-- the beginning, in a round or not -/
theorem HIn.round (l : Nat) (hro : F.round = none) (hd : noDf ops = true) {id : Nat} {a : Act} {w : World} (hm : P.follows .mixedOrders = true)
    (h : HIn F n P .any ops Q S ops.size (Array.replicate ops.size false) a w.drew) : (Code.region id ops true).wpIn (F.inRound l) n P Q a w :=
  region_rnd l hro (noDf_iff hd) hm (HIn.any _ _ _ _ h)
theorem HIn.plain {id : Nat} {a : Act} {w : World} (hm : P.follows .mixedOrders = true)
    (h : HIn F n P .any ops Q S ops.size (Array.replicate ops.size false) a w.drew) : (Code.region id ops true).wpIn F n P Q a w :=
  wpIn_region_any hm (HIn.any _ _ _ _ h)
end
end Go.Proofs.YtoaccmblaifnmaaDoor
