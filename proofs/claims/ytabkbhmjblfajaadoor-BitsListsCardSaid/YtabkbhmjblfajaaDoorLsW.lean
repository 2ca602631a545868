/-
  The contract of 'floats' with its row written out; what the statement BitsLists does to its own list.
-/
import Derived.Test.YtabkbhmjblfajaaDoorLsR
import Derived.Test.YtabkbhmjblfajaaDoorLiv
namespace Go.Proofs.YtabkbhmjblfajaaDoor
open Flo Go.RowKit
theorem fl_get (zs : List Nat) (i : Nat) (h : i < zs.length) : (fl zs)[i]? = some (.float .f64 (zs.getD i 0)) := by
  simp [fl, List.getD, h]
/-- A list of floats of the call's own: its row, its cells, none frozen. -/
structure Fs (w : World) (B g n : Nat) (xs : List Nat) : Prop where
  len : xs.length = n
  lo : B ≤ g
  hi : g < w.heap.size
  cell : ∀ i, i < n → w.cell? ⟨g, i, none⟩ = some (.float .f64 (xs.getD i 0))
  free : ∀ i, w.frozen? ⟨g, i, none⟩ = false
theorem floats_f (v : Value) (zs : List Nat) (w : World) (hin : InS w v zs) (hr : zs.length * 8 ≤ 140737488351232) :
    Calls Tryd.prog 34 #[v] w fun e w' => ∃ g cap, e = .returned (.slice (some ⟨g, 0, none⟩) zs.length cap) ∧ Fs w' w.heap.size g zs.length zs ∧ zs.length ≤ cap ∧ cap ≤ maxLen ∧ Below w.heap.size w w' := by
  refine (floats_c v zs w hin hr).mono ?_
  rintro e w' ⟨v', rfl, ⟨hl, ho⟩, hne, hb⟩
  rcases ho with ⟨h1, _⟩ | ⟨g, cap, cur, rfl, h1, h2, h3, h4, h5, h6⟩
  · exact absurd h1 hne
  · refine ⟨g, cap, rfl, ⟨rfl, h1, (Array.getElem?_eq_some_iff.1 h2).1, fun i hi => ?_, fun i => ?_⟩, h3, h4, hb⟩
    · have e1 : w'.cell? ⟨g, i, none⟩ = cur[i]? := by unfold World.cell?; rw [h2]; rfl
      rw [e1, ← fl_get zs i hi, ← h6]
      simp [hi]
    · unfold World.frozen?; rw [h2]; simp
theorem Fs.rd {w : World} {B g n : Nat} {xs : List Nat} (h : Fs w B g n xs) (cap : Nat) : Rd w (.slice (some ⟨g, 0, none⟩) n cap) xs :=
  ⟨_, cap, by rw [h.len], fun _ => ⟨g, 0, rfl, fun i hi => by rw [Nat.zero_add]; exact h.cell i (by rw [← h.len]; exact hi)⟩⟩
theorem Fs.below {w w' : World} {B g n : Nat} {xs : List Nat} (h : Fs w B g n xs) {C : Nat} (hb : Below C w w') (hC : g < C) : Fs w' B g n xs :=
  ⟨h.len, h.lo, Nat.lt_of_lt_of_le h.hi hb.size, fun i hi => (hb.cell (p := ⟨g, i, none⟩) hC).trans (h.cell i hi), fun i => (hb.frozen (p := ⟨g, i, none⟩) hC).trans (h.free i)⟩
/-- One NaN for another. -/
def fx (x : Nat) : Nat := if nanB x then 18442240474082181121 else x
def nx (zs : List Nat) (k : Nat) : List Nat := (zs.take k).map fx ++ zs.drop k
theorem nx_len (zs : List Nat) (k : Nat) : (nx zs k).length = zs.length := by simp [nx]; omega
theorem nx_get (zs : List Nat) (k i : Nat) (hi : i < zs.length) : (nx zs k).getD i 0 = if i < k then fx (zs.getD i 0) else zs.getD i 0 := by
  unfold nx
  by_cases h : i < k
  · rw [if_pos h]
    simp only [List.getD]
    rw [List.getElem?_append_left (by simp; omega)]
    simp [h, hi]
  · rw [if_neg h]
    simp only [List.getD]
    rw [List.getElem?_append_right (by simp; omega)]
    simp
    congr 2; omega
theorem fx_bt (x : Nat) : bt (fx x) = bt x := by
  unfold fx
  cases h : nanB x
  · simp
  · have h1 : bt x = 9221120237041090560 := by unfold nanB at h; unfold bt; rw [if_pos (of_decide_eq_true h)]
    rw [h1, if_pos rfl]; decide
theorem fx_lt {x : Nat} (h : x < 18446744073709551616) : fx x < 18446744073709551616 := by unfold fx; split <;> omega
theorem nx_lim {zs : List Nat} (h : lim zs) (k : Nat) : lim (nx zs k) := by
  intro x hx
  unfold nx at hx
  rcases List.mem_append.1 hx with hx | hx
  · obtain ⟨y, hy, rfl⟩ := List.mem_map.1 hx
    exact fx_lt (h y (List.mem_of_mem_take hy))
  · exact h x (List.mem_of_mem_drop hx)
theorem sl_self (zs : List Nat) : sl zs zs = true := (sl_true rfl (fun _ _ => rfl)).symm
theorem sl_nx (zs : List Nat) (k : Nat) : sl (nx zs k) zs = true := by
  refine (sl_true (nx_len zs k) fun i hi => ?_).symm
  rw [nx_len] at hi
  rw [nx_get zs k i hi]
  split
  · exact fx_bt _
  · rfl
theorem Fs.keep {w : World} {B g n : Nat} {xs : List Nat} (h : Fs w B g n xs) {a : Addr} (ha : a.block ≠ g) (v : Value) : Fs (w.setCell a v) B g n xs :=
  ⟨h.len, h.lo, by rw [World.size_setCell]; exact h.hi, fun i hi => by rw [World.cell?_setCell_other _ _ _ _ (fun e => ha (by rw [e]))]; exact h.cell i hi, fun i => by rw [World.frozen?_setCell]; exact h.free i⟩
theorem Fs.next {w : World} {B g n : Nat} {zs : List Nat} (k : Nat) (hk : k < n) (hz : zs.length = n) (h : Fs w B g n (nx zs k)) (hf : fx (zs.getD k 0) = zs.getD k 0) : Fs w B g n (nx zs (k + 1)) :=
  ⟨by rw [nx_len, hz], h.lo, h.hi, fun i hi => by
    rw [h.cell i hi, nx_get zs k i (by omega), nx_get zs (k + 1) i (by omega)]
    by_cases e : i = k
    · subst e; rw [if_neg (by omega), if_pos (by omega), hf]
    · by_cases e2 : i < k
      · rw [if_pos e2, if_pos (by omega)]
      · rw [if_neg e2, if_neg (by omega)], h.free⟩
theorem Fs.put {w : World} {B g n : Nat} {zs : List Nat} (k : Nat) (hk : k < n) (hz : zs.length = n) (h : Fs w B g n (nx zs k)) : Fs (w.setCell ⟨g, k, none⟩ (.float .f64 (fx (zs.getD k 0)))) B g n (nx zs (k + 1)) :=
  ⟨by rw [nx_len, hz], h.lo, by rw [World.size_setCell]; exact h.hi, fun i hi => by
    rw [nx_get zs (k + 1) i (by omega)]
    by_cases e : i = k
    · subst e; rw [World.cell?_setCell_same _ _ _ (h.cell i hi), if_pos (by omega)]
    · rw [World.cell?_setCell_other _ _ _ _ (fun q : (⟨g, k, none⟩ : Addr) = ⟨g, i, none⟩ => e (congrArg Addr.off q).symm), h.cell i hi, nx_get zs k i (by omega)]
      by_cases e2 : i < k
      · rw [if_pos e2, if_pos (by omega)]
      · rw [if_neg e2, if_neg (by omega)], fun i => by rw [World.frozen?_setCell]; exact h.free i⟩
theorem Fs.start {w : World} {B g n : Nat} {zs : List Nat} (h : Fs w B g n zs) : Fs w B g n (nx zs 0) := by
  have e : nx zs 0 = zs := by simp [nx]
  rw [e]; exact h
end Go.Proofs.YtabkbhmjblfajaaDoor
