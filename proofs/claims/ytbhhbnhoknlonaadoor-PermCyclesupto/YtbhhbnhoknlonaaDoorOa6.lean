/-
  timbremem.OwnInts of the cycles' lists.
-/
import Derived.Test.YtbhhbnhoknlonaaDoorSl6
import Derived.Test.YtbhhbnhoknlonaaDoorOz6
namespace Go.Proofs.YtbhhbnhoknlonaaDoor
open Flo Go.RowKit Go.Shelf

/-- a row of ints from N on -/
def IntRow (N : Nat) (W : World) (b : Nat) : Prop := N ≤ b ∧ ∃ cur, W.heap[b]? = some (.cells cur 3 (0, 0))
theorem IntRow.of {N : Nat} {W : World} {v : Value} {n : Nat} {xs : List Value} (h : W.ownsRow N 3 1 v n xs) {b : Nat} (hb : v.ownBlock = some b) : IntRow N W b := by
  rcases h.2 with ⟨rfl, _⟩ | ⟨g, cap, cur, rfl, h1, h2, _⟩
  · cases hb
  · cases hb; exact ⟨h1, cur, h2⟩
theorem CyO.app {p : List Int} {N M : Nat} {W : World} {xs zs : List (Value × Nat)} (hx : CyO p N W xs) (hz : CyO p M W zs) (hNM : N ≤ M) (hM : ∀ y ∈ xs, ∀ k, y.1.ownBlock = some k → k < M) : CyO p N W (xs ++ zs) := by
  refine ⟨fun y hy => ?_, List.pairwise_append.2 ⟨hx.ap, hz.ap, fun a ha b hb k hk hk2 => ?_⟩⟩
  · rcases List.mem_append.1 hy with hy | hy
    · exact hx.row y hy
    · exact own_low (hz.row y hy) hNM
  · have h1 := hM a ha k hk
    have h2 := ((hz.row b hb).lt k hk2).1
    omega
theorem ownAll_c (v : Value) (p : List Int) (N : Nat) (ws : List (Value × Nat)) (W : World) (ho : W.ownsRow N 22 1 v ws.length (ws.map (·.1))) (hc : CyO p N W ws) (hl : ws.length ≤ 1099511627776) (hper : ∀ y ∈ ws, Pm.per p y.2 ≤ 1099511627776) :
    Calls Tryd.prog 25 #[v] W fun e W' => e = .returned (.bool true) ∧ KT (IntRow N W) W W' := by
  by_cases h0 : ws.length = 0
  · have hw : ws = [] := List.length_eq_zero_iff.1 h0
    subst hw
    refine (ownInts_0 v W ho).mono fun e W' ⟨h1, h2⟩ => ⟨h1, ?_⟩
    exact ⟨h2.os, h2.tape, h2.output, h2.size, fun k hk _ => h2.block k hk⟩
  · obtain ⟨q, cap, rfl, hq1, hq2, hq3⟩ := ownsRow_form ho (by omega)
    have hd : ∀ t (h : t < ws.length), (ws.getD t (.nilIface, 0)) = ws[t] := fun t h => by simp [List.getD, h]
    have hmem : ∀ t, t < ws.length → (ws.getD t (.nilIface, 0)) ∈ ws := fun t h => by rw [hd t h]; exact List.getElem_mem h
    have hrow := fun t (h : t < ws.length) => hc.row _ (hmem t h)
    refine (ownInts_c ws.length q cap (fun t => (ws.getD t (.nilIface, 0)).1) (fun t => if t < ws.length then Pm.per p (ws.getD t (.nilIface, 0)).2 else 0) (fun t => fl (Pm.it p (ws.getD t (.nilIface, 0)).2) (Pm.per p (ws.getD t (.nilIface, 0)).2)) W (by omega) hl (fun t => ?_) (fun t ht => ?_) (fun hT => ?_) hq3 ⟨fun t ht => ?_, fun t u b ht hu htu h1 h2 => ?_⟩).mono fun e W' ⟨h1, h2⟩ => ⟨h1, ?_⟩
    · show (if t < ws.length then _ else 0) ≤ _
      split
      · rename_i h; exact hper _ (hmem t h)
      · omega
    · have h := ho.cellAt t (by omega)
      rw [h]
      show _ = some (ws.getD t (.nilIface, 0)).1
      rw [hd t ht]
      simp [ht]
    · obtain ⟨t, ht, hb⟩ := hT
      exact own_ne (hrow t ht) ho (by decide) q hb rfl
    · show W.ownsRow 0 _ 1 _ (if t < ws.length then _ else 0) _
      rw [if_pos ht]
      exact own_low (hrow t ht) (Nat.zero_le _)
    · have key : ∀ a b', a < b' → b' < ws.length → ∀ k, (ws.getD a (.nilIface, 0)).1.ownBlock = some k → (ws.getD b' (.nilIface, 0)).1.ownBlock ≠ some k := fun a b' hab hb' k => by
        rw [hd a (by omega), hd b' hb']
        exact (List.pairwise_iff_getElem.1 hc.ap) a b' (by omega) hb' hab k
      rcases Nat.lt_or_gt_of_ne htu with c | c
      · exact key t u c hu b h1 h2
      · exact key u t c ht b h2 h1
    · refine ⟨h2.os, h2.tape, h2.output, h2.size, fun k hk hT => h2.block k hk fun ⟨t, ht, hb⟩ => hT (IntRow.of (hrow t ht) hb)⟩
end Go.Proofs.YtbhhbnhoknlonaaDoor
