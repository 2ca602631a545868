/-
  The sentinel errors of package api: where each variable points, no two to one place; timbrenum.list and timbrenum.Num: the number of each.
-/
import Derived.Test.YtoaccmblaifnmaaDoorProg
import Derived.Test.YtoaccmblaifnmaaDoorRows
import Derived.WalkKit
import Derived.WalkLawsBesides
import Derived.LaidEql
import Derived.LaidLaws
import Derived.LaidHandle
import Derived.Stop.Joined
namespace Go.Proofs.YtoaccmblaifnmaaDoor
open Go.RowKit

theorem err_name : Tryd.prog.typeName? 3 160 = some "*errors.errorString" := by kernel_rfl
theorem err_cellsS : Tryd.prog.cellsOf 176 = 1 := by kernel_rfl
theorem err_cells9 : Tryd.prog.cellsOf 9 = 1 := by kernel_rfl
theorem err_star : "*" ++ "errors.errorString" = "*errors.errorString" := by decide
theorem err_row (u : TypeId) (h : Tryd.prog.typeName? 3 u = some "*errors.errorString") : u = 160 :=
  typeName_ptr_named (nm := "errors.errorString") (by rw [err_star]; kernel_rfl) (by kernel_rfl) (by decide) u (by rw [err_star]; exact h)

/-- The value that an error variable holds. -/
def ev (a : Addr) : Value := .iface 160 (.pointer (some a))
/-- An error's datum. -/
def errD (t : List UInt8) : DataW Unit := .iface "*errors.errorString" (.ptr (.agg [.lit (.string t)]))
/-- Variables (by number) and what they point to. -/
def Sent (W : World) : List Nat → List Addr → Prop
  | [], [] => True
  | g :: gs, a :: al => W.cell? ⟨g, 0, none⟩ = some (ev a) ∧ Sent W gs al
  | _, _ => False
set_option maxRecDepth 100000 in
theorem sents {W : World} : ∀ (l : List (String × List UInt8)) (gs : List Nat) (ps : List MemPlace),
    (l.map fun x => Tryd.prog.globalNamed x.1) = gs.map some → (∀ g ∈ gs, (Tryd.prog.globals[g]?).map (·.type) = some 31) →
    DataW.LaidVars Tryd.prog W (l.map fun x => (x.1, errD x.2)) ps →
    (∀ b off, MemPlace.cell b off ∈ ps → (∃ c t, W.heap[b]? = some (.cells c t (0, 0))) ∧ ∀ u v, W.cell? ⟨b, off, none⟩ = some (.iface u v) → Value.okWide Tryd.prog W .any 0 u v) →
    ∃ al : List Addr, Sent W gs al ∧ (∀ a ∈ al, MemPlace.cell a.block a.off ∈ ps) ∧ (ps.Nodup → al.Nodup)
  | [], gs, ps, hg, _, h, _ => by
    cases gs with
    | nil => exact ⟨[], trivial, fun a ha => (by cases ha), fun _ => List.nodup_nil⟩
    | cons g gs => simp at hg
  | (n, t) :: l, gs, ps, hg, ht, h, hr => by
    cases gs with
    | nil => simp at hg
    | cons g gs =>
      simp only [List.map_cons, List.cons.injEq] at hg
      obtain ⟨hg0, hg1⟩ := hg
      obtain ⟨g', t', cs, fuel, p, q, h1, h2, h3, h4, h5, rfl⟩ := h
      obtain rfl := Option.some.inj (hg0.symm.trans h1)
      obtain rfl := Option.some.inj ((ht g (by simp)).symm.trans h2)
      obtain ⟨l0⟩ := cs
      have hc0 : W.cell? ⟨g, 0, none⟩ = l0[0]? := by simpa using World.var?_cell h1 h3 0
      have ok0 : ∀ u v, l0 = [.iface u v] → Value.okWide Tryd.prog W .any 0 u v := fun u v e => by
        subst e
        exact (hr g 0 (by simp [MemPlace.row])).2 u v (by simpa using hc0)
      obtain ⟨a, s, rfl, hc, hs, hz, rfl⟩ := errorString_of_trod Tryd.underlying31 err_row Tryd.underlying160 Tryd.underlying176 rfl rfl Tryd.underlying9 err_cellsS err_cells9 h4 ok0
      obtain ⟨al, i1, i2, i3⟩ := sents l gs q hg1 (fun g hg => ht g (by simp [hg])) h5 (fun b off hb => hr b off (by simp [hb]))
      refine ⟨a :: al, ⟨by simpa [ev] using hc0, i1⟩, fun x hx => ?_, fun hn => ?_⟩
      · rcases List.mem_cons.1 hx with rfl | hx
        · simp [MemPlace.row]
        · have := i2 x hx; simp [this]
      · rw [List.nodup_append] at hn
        obtain ⟨hn1, hn2, hn3⟩ := hn
        refine List.nodup_cons.2 ⟨fun hx => ?_, i3 hn2⟩
        exact hn3 (.cell a.block a.off) (by simp [MemPlace.row]) _ (i2 a hx) rfl
theorem cell_lt {w : World} {a : Addr} {v : Value} (h : w.cell? a = some v) : a.block < w.heap.size := by
  unfold World.cell? at h
  cases e : w.heap[a.block]? with
  | none => rw [e] at h; cases h
  | some o => exact (Array.getElem?_eq_some_iff.1 e).1
/-- The nineteen sentinels of a world. -/
structure Errs (w : World) (al : List Addr) : Prop where
  sent : Sent w [5, 6, 1, 7, 2, 3, 4, 0, 8, 9, 10, 11, 12, 13, 14, 15, 16, 17, 18] al
  nd : al.Nodup
  row : ∀ a ∈ al, ∃ c t, w.heap[a.block]? = some (.cells c t (0, 0))
theorem Sent.below {w w' : World} (hb : Below w.heap.size w w') : ∀ (gs : List Nat) (al : List Addr), Sent w gs al → Sent w' gs al
  | [], [], _ => trivial
  | g :: gs, a :: al, h => ⟨by rw [hb.cell (p := ⟨g, 0, none⟩) (cell_lt h.1)]; exact h.1, Sent.below hb gs al h.2⟩
  | [], _ :: _, h => h.elim
  | _ :: _, [], h => h.elim
theorem Errs.below {w w' : World} {al : List Addr} (h : Errs w al) (hb : Below w.heap.size w w') : Errs w' al :=
  ⟨Sent.below hb _ _ h.sent, h.nd, fun a ha => by
    obtain ⟨c, t, e⟩ := h.row a ha
    exact ⟨c, t, by rw [hb.block a.block (Array.getElem?_eq_some_iff.1 e).1]; exact e⟩⟩
theorem Errs.len {w : World} {al : List Addr} (h : Errs w al) : ∃ a0 a1 a2 a3 a4 a5 a6 a7 a8 a9 a10 a11 a12 a13 a14 a15 a16 a17 a18, al = [a0, a1, a2, a3, a4, a5, a6, a7, a8, a9, a10, a11, a12, a13, a14, a15, a16, a17, a18] := by
  obtain ⟨hs, _, _⟩ := h
  match al, hs with
  | [a0, a1, a2, a3, a4, a5, a6, a7, a8, a9, a10, a11, a12, a13, a14, a15, a16, a17, a18], _ => exact ⟨a0, a1, a2, a3, a4, a5, a6, a7, a8, a9, a10, a11, a12, a13, a14, a15, a16, a17, a18, rfl⟩
end Go.Proofs.YtoaccmblaifnmaaDoor
