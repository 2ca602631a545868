/-
  What timbremem.OwnInts keeps while its lists grow.
-/
import Derived.Test.YtbhhbnhoknlonaaDoorOwn5
namespace Go.Proofs.YtbhhbnhoknlonaaDoor
open Flo Go.RowKit

def Tb (m : Nat) (vs : Nat → Value) (b : Nat) : Prop := ∃ t, t < m ∧ (vs t).ownBlock = some b
/-- the list that came in still reads as its marks -/
def Pf (m : Nat) (vs : Nat → Value) (ns : Nat → Nat) (W : World) (gs : Nat → Value) (t : Nat) : Prop :=
  (vs t).ownBlock = (gs t).ownBlock ∨ ((∀ u, u < m → ∀ b, (vs t).ownBlock = some b → (gs u).ownBlock ≠ some b) ∧ ∀ b j, (vs t).ownBlock = some b → j < ns t → W.cell? ⟨b, j, none⟩ = some (.int .i64 (mkv t j)))
structure StI (m G cG : Nat) (vs : Nat → Value) (ns : Nat → Nat) (w : World) (W : World) (gs : Nat → Value) (cn : Nat → Nat) : Prop where
  L : LsI W m gs cn (fun t => mks t (cn t))
  P : ∀ t, t < m → Pf m vs ns W gs t
  B : ∀ t, t < m → ∀ b, (gs t).ownBlock = some b → (Tb m vs b ∨ w.heap.size ≤ b) ∧ b ≠ G
  R : W.ownsRow w.heap.size 22 1 (.slice (some ⟨G, 0, none⟩) m cG) m ((List.range m).map gs)
  K : KT (Tb m vs) w W
  ge : ∀ t, t < m → ns t ≤ cn t
  old : ∀ t, t < m → ∀ b, (vs t).ownBlock = some b → b < w.heap.size
theorem StI.quiet {m G cG : Nat} {vs : Nat → Value} {ns : Nat → Nat} {w W W' : World} {gs : Nat → Value} {cn : Nat → Nat} (h : StI m G cG vs ns w W gs cn) (hg : W.grownBy W' none) : StI m G cG vs ns w W' gs cn := by
  have hne : ∀ (v : Value), v.ownBlock = none ∨ v.ownBlock ≠ none := fun v => by
    cases v.ownBlock with
    | none => exact .inl rfl
    | some b => exact .inr (by simp)
  refine ⟨⟨fun t ht => (h.L.row t ht).kept hg (hne _), h.L.ap⟩, fun t ht => ?_, h.B, h.R.kept hg (hne _), h.K.trans (KT.grown hg (fun b e => by cases e)), h.ge, h.old⟩
  rcases h.P t ht with p | ⟨p, r⟩
  · exact .inl p
  · exact .inr ⟨p, fun b j hb hj => hg.cell (r b j hb hj) (by simp)⟩
theorem StI.Glt {m G cG : Nat} {vs : Nat → Value} {ns : Nat → Nat} {w W : World} {gs : Nat → Value} {cn : Nat → Nat} (h : StI m G cG vs ns w W gs cn) : w.heap.size ≤ G ∧ G < W.heap.size := h.R.lt G rfl
theorem map_upd {m i : Nat} (gs : Nat → Value) (v : Value) : ((List.range m).map gs).set i v = (List.range m).map (upd gs i v) := by
  apply List.ext_getElem
  · simp
  · intro k h1 h2
    simp only [List.getElem_set, List.getElem_map, List.getElem_range]
    unfold upd
    by_cases e : i = k
    · subst e; simp
    · rw [if_neg e, if_neg (fun c => e c.symm)]
theorem StI.step {m G cG : Nat} {vs : Nat → Value} {ns : Nat → Nat} {w W w1 : World} {gs : Nat → Value} {cn : Nat → Nat} (h : StI m G cG vs ns w W gs cn) (i : Nat) (hi : i < m) (v' : Value)
    (ho : w1.ownsRow 0 3 1 v' (cn i + 1) (mks i (cn i + 1))) (hg : (v'.ownBlock = (gs i).ownBlock ∧ W.grownBy w1 (gs i).ownBlock) ∨ (v'.ownBlock = some W.heap.size ∧ W.grownBy w1 none)) :
    StI m G cG vs ns w (w1.setCell ⟨G, i, none⟩ v') (upd gs i v') (upd cn i (cn i + 1)) := by
  obtain ⟨G1, G2⟩ := h.Glt
  have hsz := h.K.size
  -- the rows behind the append
  have hL1 : LsI w1 m (upd gs i v') (upd cn i (cn i + 1)) (upd (fun t => mks t (cn t)) i (mks i (cn i + 1))) := h.L.turn i hi v' (cn i + 1) (mks i (cn i + 1)) ho hg
  have hgr : ∀ b, (∀ t, t < m → (gs t).ownBlock ≠ some b) → b < W.heap.size → w1.heap[b]? = W.heap[b]? := fun b hb hlt => by
    rcases hg with ⟨_, g⟩ | ⟨_, g⟩
    · exact g.block b hlt (fun e => hb i hi e.symm)
    · exact g.block b hlt (by simp)
  have hGne : ∀ t, t < m → (gs t).ownBlock ≠ some G := fun t ht c => (h.B t ht G c).2 rfl
  have hR1 : w1.ownsRow w.heap.size 22 1 (.slice (some ⟨G, 0, none⟩) m cG) m ((List.range m).map gs) := by
    rcases hg with ⟨_, g⟩ | ⟨_, g⟩
    · exact h.R.kept g (.inr (fun e => hGne i hi (by rw [← e]; rfl)))
    · exact h.R.kept g (.inr (by simp [Value.ownBlock]))
  obtain ⟨hR2, hg2⟩ := hR1.stored i v'
  have hv'G : v'.ownBlock ≠ some G := fun c => by
    rcases hg with ⟨e, _⟩ | ⟨e, _⟩
    · exact hGne i hi (by rw [← e]; exact c)
    · rw [e] at c; simp at c; omega
  have hupG : ∀ t, t < m → (upd gs i v' t).ownBlock ≠ some G := fun t ht => by
    by_cases e : t = i
    · subst e; rw [upd_same]; exact hv'G
    · rw [upd_ne _ _ e]; exact hGne t ht
  have hK1 : KT (Tb m vs) w w1 := by
    refine ⟨?_, ?_, ?_, ?_, fun k hk hT => ?_⟩
    · rcases hg with ⟨_, g⟩ | ⟨_, g⟩ <;> exact g.os.trans h.K.os
    · rcases hg with ⟨_, g⟩ | ⟨_, g⟩ <;> exact g.tape.trans h.K.tape
    · rcases hg with ⟨_, g⟩ | ⟨_, g⟩ <;> exact g.output.trans h.K.output
    · rcases hg with ⟨_, g⟩ | ⟨_, g⟩ <;> exact Nat.le_trans hsz g.size
    · refine (hgr k (fun t ht c => ?_) (by omega)).trans (h.K.block k hk hT)
      rcases (h.B t ht k c).1 with x | x
      · exact hT x
      · omega
  refine ⟨⟨fun t ht => ?_, hL1.ap⟩, fun t ht => ?_, fun t ht b hb => ?_, ?_, ?_, fun t ht => ?_, h.old⟩
  · have hk := (hL1.row t ht).kept hg2 (by
      cases e : (upd gs i v' t).ownBlock with
      | none => exact .inl rfl
      | some b => exact .inr (fun c => hupG t ht (by rw [e, c])))
    by_cases e : t = i
    · subst e; rw [upd_same, upd_same]; rw [upd_same, upd_same, upd_same] at hk; exact hk
    · rw [upd_ne _ _ e, upd_ne _ _ e]; rw [upd_ne _ _ e, upd_ne _ _ e, upd_ne _ _ e] at hk; exact hk
  · have hcell : ∀ b j x, b < W.heap.size → b ≠ G → (∀ u, u < m → (gs u).ownBlock ≠ some b) → W.cell? ⟨b, j, none⟩ = some x → (w1.setCell ⟨G, i, none⟩ v').cell? ⟨b, j, none⟩ = some x := fun b j x hlt hbG hu hc => by
      have e1 : w1.cell? ⟨b, j, none⟩ = some x := (World.cell?_of_block (w := W) (hgr b hu hlt)).trans hc
      exact hg2.cell e1 (fun c => hbG (by simpa using c))
    by_cases e : t = i
    · subst e
      rcases h.P t ht with p | ⟨p, r⟩
      · rcases hg with ⟨e1, g⟩ | ⟨e1, g⟩
        · left; rw [upd_same, e1]; exact p
        · right
          have hb0 : ∀ b, (vs t).ownBlock = some b → b < w.heap.size := h.old t ht
          constructor
          · intro u hu b hb
            by_cases e2 : u = t
            · subst e2
              rw [upd_same, e1]
              intro c
              have := hb0 b hb
              simp at c
              omega
            · rw [upd_ne _ _ e2]
              exact fun c => h.L.ap t u b ht hu (fun x => e2 x.symm) (by rw [← p]; exact hb) c
          · intro b j hb hj
            have hbg : (gs t).ownBlock = some b := by rw [← p]; exact hb
            have hrow := h.L.row t ht
            have hc0 : W.cell? ((⟨b, 0, none⟩ : Addr).add j) = some (.int .i64 (mkv t j)) := hrow.cells hbg j _ (mks_get t (cn t) j (Nat.lt_of_lt_of_le hj (h.ge t ht)))
            have hc1 : W.cell? ⟨b, j, none⟩ = some (.int .i64 (mkv t j)) := by
              rw [← hc0]; congr 1; unfold Addr.add
              by_cases j0 : j = 0
              · subst j0; simp
              · simp [j0]
            have e3 : w1.cell? ⟨b, j, none⟩ = some (.int .i64 (mkv t j)) := g.cell hc1 (by simp)
            have := hb0 b hb
            exact hg2.cell e3 (fun c => by simp at c; omega)
      · right
        refine ⟨fun u hu b hb => ?_, fun b j hb hj => ?_⟩
        · by_cases e2 : u = t
          · subst e2
            rw [upd_same]
            rcases hg with ⟨e1, _⟩ | ⟨e1, _⟩
            · rw [e1]; exact p u hu b hb
            · rw [e1]; intro c
              have := h.old u ht b hb
              simp at c
              omega
          · rw [upd_ne _ _ e2]; exact p u hu b hb
        · have hb0 := h.old t ht b hb
          exact hcell b j _ (by omega) (by omega) (fun u hu => p u hu b hb) (r b j hb hj)
    · rcases h.P t ht with p | ⟨p, r⟩
      · left; rw [upd_ne _ _ e]; exact p
      · right
        refine ⟨fun u hu b hb => ?_, fun b j hb hj => ?_⟩
        · by_cases e2 : u = i
          · subst e2
            rw [upd_same]
            rcases hg with ⟨e1, _⟩ | ⟨e1, _⟩
            · rw [e1]; exact p u hu b hb
            · rw [e1]; intro c
              have := h.old t ht b hb
              simp at c
              omega
          · rw [upd_ne _ _ e2]; exact p u hu b hb
        · have hb0 := h.old t ht b hb
          exact hcell b j _ (by omega) (by omega) (fun u hu => p u hu b hb) (r b j hb hj)
  · by_cases e : t = i
    · subst e
      rw [upd_same] at hb
      refine ⟨?_, fun c => hv'G (by rw [hb, c])⟩
      rcases hg with ⟨e1, _⟩ | ⟨e1, _⟩
      · exact (h.B t ht b (by rw [← e1]; exact hb)).1
      · right
        rw [e1] at hb
        simp at hb
        omega
    · rw [upd_ne _ _ e] at hb
      exact h.B t ht b hb
  · rw [← map_upd]; exact hR2
  · exact ⟨hg2.os.trans hK1.os, hg2.tape.trans hK1.tape, hg2.output.trans hK1.output, Nat.le_trans hK1.size hg2.size, fun k hk hT => (hg2.block k (by have := hK1.size; omega) (fun c => by simp at c; omega)).trans (hK1.block k hk hT)⟩
  · by_cases e : t = i
    · subst e; rw [upd_same]; have := h.ge t ht; omega
    · rw [upd_ne _ _ e]; exact h.ge t ht
end Go.Proofs.YtbhhbnhoknlonaaDoor
