/-
  The sentinel errors of package api with their texts: what each variable points to, and what text lies there.
-/
import Derived.Test.YtabkbhmjblfajabDoorLaid
import Derived.Test.YtabkbhmjblfajabDoorNum
namespace Go.Proofs.YtabkbhmjblfajabDoor
open Go.RowKit
/-- Variables (by number), what they point to, and the text that lies there. -/
def SentT (W : World) : List Nat → List Addr → List (List UInt8) → Prop
  | [], [], [] => True
  | g :: gs, a :: al, t :: ts => W.cell? ⟨g, 0, none⟩ = some (ev a) ∧ W.cell? a = some (.string ⟨t.toArray⟩) ∧ SentT W gs al ts
  | _, _, _ => False
theorem sentsT {W : World} : ∀ (l : List (String × List UInt8)) (gs : List Nat) (ps : List MemPlace),
    (l.map fun x => Tryd.prog.globalNamed x.1) = gs.map some → (∀ g ∈ gs, (Tryd.prog.globals[g]?).map (·.type) = some 27) →
    DataW.LaidVars Tryd.prog W (l.map fun x => (x.1, errD x.2)) ps →
    (∀ b off, MemPlace.cell b off ∈ ps → (∃ c t, W.heap[b]? = some (.cells c t (0, 0))) ∧ ∀ u v, W.cell? ⟨b, off, none⟩ = some (.iface u v) → Value.okWide Tryd.prog W .any 0 u v) →
    ∃ al : List Addr, SentT W gs al (l.map (·.2)) ∧ (∀ a ∈ al, MemPlace.cell a.block a.off ∈ ps) ∧ (ps.Nodup → al.Nodup)
  | [], gs, ps, hg, _, h, _ => by
    cases gs with
    | nil => exact ⟨[], trivial, fun a ha => (by cases ha), fun _ => List.nodup_nil⟩
    | cons g gs => simp at hg
  | (n, t) :: l, gs, ps, hg, ht, h, hr => by
    cases gs with
    | nil => simp at hg
    | cons g gs =>
      simp only [List.map_cons, List.cons.injEq] at hg
      obtain ⟨hg0, hg1⟩ := hg
      obtain ⟨g', t', cs, fuel, p, q, h1, h2, h3, h4, h5, rfl⟩ := h
      obtain rfl := Option.some.inj (hg0.symm.trans h1)
      obtain rfl := Option.some.inj ((ht g (by simp)).symm.trans h2)
      obtain ⟨l0⟩ := cs
      have hc0 : W.cell? ⟨g, 0, none⟩ = l0[0]? := by simpa using World.var?_cell h1 h3 0
      have ok0 : ∀ u v, l0 = [.iface u v] → Value.okWide Tryd.prog W .any 0 u v := fun u v e => by
        subst e
        exact (hr g 0 (by simp [MemPlace.row])).2 u v (by simpa using hc0)
      obtain ⟨a, s, rfl, hc, hs, hz, rfl⟩ := errorString_of_trod Tryd.underlying27 err_row Tryd.underlying52 Tryd.underlying69 rfl rfl Tryd.underlying9 err_cellsS err_cells9 h4 ok0
      obtain ⟨al, i1, i2, i3⟩ := sentsT l gs q hg1 (fun g hg => ht g (by simp [hg])) h5 (fun b off hb => hr b off (by simp [hb]))
      have es : s = ⟨t.toArray⟩ := by
        obtain ⟨d⟩ := s
        congr 1
        exact Array.toList_inj.1 (by simpa using hs)
      refine ⟨a :: al, ⟨by simpa [ev] using hc0, by rw [← es]; exact hc, i1⟩, fun x hx => ?_, fun hn => ?_⟩
      · rcases List.mem_cons.1 hx with rfl | hx
        · simp [MemPlace.row]
        · have := i2 x hx; simp [this]
      · rw [List.nodup_append] at hn
        obtain ⟨hn1, hn2, hn3⟩ := hn
        refine List.nodup_cons.2 ⟨fun hx => ?_, i3 hn2⟩
        exact hn3 (.cell a.block a.off) (by simp [MemPlace.row]) _ (i2 a hx) rfl
theorem SentT.sent {W : World} : ∀ (gs : List Nat) (al : List Addr) (ts : List (List UInt8)), SentT W gs al ts → Sent W gs al
  | [], [], [], _ => trivial
  | _ :: gs, _ :: al, _ :: ts, h => ⟨h.1, SentT.sent gs al ts h.2.2⟩
/-- The k-th text lies behind the k-th pointer. -/
theorem SentT.at {W : World} : ∀ (gs : List Nat) (al : List Addr) (ts : List (List UInt8)), SentT W gs al ts → ∀ k, k < ts.length → W.cell? (al.getD k ⟨0, 0, none⟩) = some (.string ⟨(ts.getD k []).toArray⟩)
  | [], [], [], _, k, hk => by simp at hk
  | g :: gs, a :: al, t :: ts, h, 0, _ => h.2.1
  | g :: gs, a :: al, t :: ts, h, k + 1, hk => by simpa using SentT.at gs al ts h.2.2 k (by simpa using hk)
theorem errsT_of {W : World} (h : laidMetH Tryd.prog (errNames.map fun x => (x.1, errD x.2)) W) : ∃ al, Errs W al ∧ ∀ k, k < 19 → W.cell? (al.getD k ⟨0, 0, none⟩) = some (.string ⟨((errNames.map (·.2)).getD k []).toArray⟩) := by
  rw [MakeChecks.laidMetH_plain _ _ _ (by kernel_rfl)] at h
  obtain ⟨ps, hv, hnd, hr⟩ := h
  obtain ⟨al, h1, h2, h3⟩ := sentsT errNames [0, 1, 2, 3, 4, 5, 6, 7, 8, 9, 10, 11, 12, 13, 14, 15, 16, 17, 18] ps (by kernel_rfl) (by decide +kernel) hv hr
  exact ⟨al, ⟨SentT.sent _ _ _ h1, h3 hnd, fun a ha => (hr _ _ (h2 a ha)).1⟩, fun k hk => SentT.at _ _ _ h1 k hk⟩
end Go.Proofs.YtabkbhmjblfajabDoor
