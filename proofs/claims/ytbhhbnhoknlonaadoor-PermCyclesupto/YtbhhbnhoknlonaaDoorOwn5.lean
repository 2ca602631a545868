/-
  timbremem.OwnInts: lists of ints in rows of their own, no two in one row: they can be written over and grown.
-/
import Derived.Test.YtbhhbnhoknlonaaDoorMk5
import Derived.Deep.RegionHeld3
import Derived.Deep.RegionWith
import Derived.Laws.OwnMore
namespace Go.Proofs.YtbhhbnhoknlonaaDoor
open Flo Go.RowKit

/-- all blocks but those of T lie as they lay -/
structure KT (T : Nat → Prop) (w w' : World) : Prop where
  os : w'.os = w.os
  tape : w'.tape = w.tape
  output : w'.output = w.output
  size : w.heap.size ≤ w'.heap.size
  block : ∀ k, k < w.heap.size → ¬ T k → w'.heap[k]? = w.heap[k]?
theorem KT.refl (T : Nat → Prop) (w : World) : KT T w w := ⟨rfl, rfl, rfl, Nat.le_refl _, fun _ _ _ => rfl⟩
theorem KT.trans {T : Nat → Prop} {a b c : World} (h : KT T a b) (k : KT T b c) : KT T a c :=
  ⟨k.os.trans h.os, k.tape.trans h.tape, k.output.trans h.output, Nat.le_trans h.size k.size, fun x hx hT => (k.block x (Nat.lt_of_lt_of_le hx h.size) hT).trans (h.block x hx hT)⟩
theorem KT.grown {T : Nat → Prop} {w w' : World} {row : Option Nat} (h : w.grownBy w' row) (hr : ∀ b, row = some b → T b) : KT T w w' :=
  ⟨h.os, h.tape, h.output, h.size, fun k hk hT => h.block k hk (fun e => hT (hr k e.symm))⟩
theorem KT.drew {T : Nat → Prop} {a w : World} (h : KT T a w) : KT T a w.drew := ⟨h.os, h.tape, h.output, h.size, h.block⟩
theorem KT.drewN {T : Nat → Prop} {a w : World} (h : KT T a w) (k : Nat) : KT T a (w.drewN k) := ⟨h.os, h.tape, h.output, h.size, h.block⟩
theorem KT.cell {T : Nat → Prop} {w w' : World} (h : KT T w w') {p : Addr} (hp : p.block < w.heap.size) (hT : ¬ T p.block) : w'.cell? p = w.cell? p := World.cell?_of_block (w := w) (h.block p.block hp hT)
/-- one value more onto a row of one's own: in its row, or in a new one, the old one as it was -/
theorem run_app1 {P : Program} (w : World) (t ty e : TypeId) (i : TypeInfo) (z : Value) (bytes : Nat) (ht : P.underlying t = some (.slice e)) (hi : P.info? e = some i) (hz : i.zero = some z)
    (hsize : i.size = 1) (hby : i.bytes = bytes) (hzs : z.cells.size = 1) (base : Nat) (v : Value) (n : Nat) (xs : List Value) (hown : w.ownsRow base e 1 v n xs) (u : Value) (hu : u.oneCell' = true) (a : Addr) (hnew : w.cell? (a.add 0) = some u)
    (h63 : n + 1 ≤ maxLen) (hbytes : (n + 1) * bytes ≤ 140737488355328) (hbase : base ≤ w.heap.size) :
    ∃ v' w', (Builtin.append_ #[t, t] ty #[v, .slice (some a) 1 1]).run P w = .ok v' w' ∧ w'.ownsRow base e 1 v' (n + 1) (xs ++ [u]) ∧
      ((v'.ownBlock = v.ownBlock ∧ w.grownBy w' v.ownBlock) ∨ (v'.ownBlock = some w.heap.size ∧ w.grownBy w' none)) := by
  have hnews : ∀ j u', ([u] : List Value)[j]? = some u' → w.cell? (a.add j) = some u' := fun j u' hj => by
    match j, hj with
    | 0, hj => simp at hj; subst hj; exact hnew
  have hone : ∀ u' ∈ [u], u'.oneCell' = true := fun u' h => by simp at h; subst h; exact hu
  obtain ⟨v', w', hr, ho, hg, hnil, hat⟩ := run_append_own_at (P := P) w base t ty e i z 1 bytes ht hi hz hsize hby hzs (by decide) v n xs hown a 1 1 [u] rfl hnews hone h63 hbytes hbase
  refine ⟨v', w', hr, ho, ?_⟩
  rcases hown.2 with ⟨rfl, rfl⟩ | ⟨g, cap, cur, rfl, hbg, hgc, hnc, hcm, hcs, htake⟩
  · rcases hat with h | h
    · exact Or.inl ⟨h, hg⟩
    · exact Or.inr ⟨h, hg⟩
  · by_cases hroom : n + 1 ≤ cap
    · have hr2 := run_append_room (P := P) w t ty e i ht hi g n cap cur hgc a 1 1 [u] (by rw [hsize]; rfl) hnews hone hroom (by rw [hsize]; simp; omega)
      rw [hr] at hr2
      simp only [Result.ok.injEq] at hr2
      obtain ⟨rfl, rfl⟩ := hr2
      exact Or.inl ⟨rfl, hg⟩
    · have hr2 := run_append_grow (P := P) w t ty e i z ht hi hz ⟨g, 0, none⟩ n cap xs (by rw [hown.1, hsize]) (hown.cells (g := g) rfl) a 1 1 [u] (by rw [hsize]; rfl) hnews (by omega) (by simp only [maxLen] at h63; omega) (growslice_fits (by omega) (by rw [hby]; exact hbytes))
      rw [hr] at hr2
      simp only [Result.ok.injEq] at hr2
      obtain ⟨rfl, rfl⟩ := hr2
      exact Or.inr ⟨rfl, ⟨rfl, rfl, rfl, by simp, fun k hk _ => Below.heap_alloc w.drew _ k hk⟩⟩
/-- lists in rows of their own, no two in one row -/
structure LsI (w : World) (m : Nat) (vs : Nat → Value) (ns : Nat → Nat) (ls : Nat → List Value) : Prop where
  row : ∀ t, t < m → w.ownsRow 0 3 1 (vs t) (ns t) (ls t)
  ap : ∀ t u b, t < m → u < m → t ≠ u → (vs t).ownBlock = some b → (vs u).ownBlock ≠ some b
/-- one of them turned -/
def upd {α : Type} (f : Nat → α) (i : Nat) (x : α) : Nat → α := fun t => if t = i then x else f t
theorem upd_same {α : Type} (f : Nat → α) (i : Nat) (x : α) : upd f i x i = x := if_pos rfl
theorem upd_ne {α : Type} (f : Nat → α) {i t : Nat} (x : α) (h : t ≠ i) : upd f i x t = f t := if_neg h
theorem LsI.turn {w w' : World} {m : Nat} {vs : Nat → Value} {ns : Nat → Nat} {ls : Nat → List Value} (h : LsI w m vs ns ls) (i : Nat) (hi : i < m) (v : Value) (n : Nat) (l : List Value) (ho : w'.ownsRow 0 3 1 v n l)
    (hg : (v.ownBlock = (vs i).ownBlock ∧ w.grownBy w' (vs i).ownBlock) ∨ (v.ownBlock = some w.heap.size ∧ w.grownBy w' none)) : LsI w' m (upd vs i v) (upd ns i n) (upd ls i l) := by
  have hlt : ∀ t b, t < m → (vs t).ownBlock = some b → b < w.heap.size := fun t b ht hb => ((h.row t ht).lt b hb).2
  refine ⟨fun t ht => ?_, fun t u b ht hu htu hb => ?_⟩
  · by_cases e : t = i
    · subst e; rw [upd_same, upd_same, upd_same]; exact ho
    · rw [upd_ne vs v e, upd_ne ns n e, upd_ne ls l e]
      rcases hg with ⟨_, hg⟩ | ⟨_, hg⟩
      · refine (h.row t ht).kept hg ?_
        cases hb : (vs t).ownBlock with
        | none => exact .inl rfl
        | some b => exact .inr (fun c => h.ap t i b ht hi e hb c.symm)
      · refine (h.row t ht).kept hg ?_
        cases hb : (vs t).ownBlock with
        | none => exact .inl rfl
        | some b => exact .inr (fun c => by cases c)
  · by_cases e : t = i
    · subst e
      rw [upd_same] at hb
      rw [upd_ne vs v (fun c => htu c.symm)]
      rcases hg with ⟨hv, _⟩ | ⟨hv, _⟩
      · rw [hv] at hb; exact h.ap t u b ht hu htu hb
      · rw [hv] at hb
        intro c
        have := hlt u b hu c
        simp at hb
        omega
    · rw [upd_ne vs v e] at hb
      by_cases e2 : u = i
      · subst e2
        rw [upd_same]
        rcases hg with ⟨hv, _⟩ | ⟨hv, _⟩
        · rw [hv]; exact h.ap t u b ht hu htu hb
        · rw [hv]
          intro c
          have := hlt t b ht hb
          simp at c
          omega
      · rw [upd_ne vs v e2]; exact h.ap t u b ht hu htu hb
end Go.Proofs.YtbhhbnhoknlonaaDoor
