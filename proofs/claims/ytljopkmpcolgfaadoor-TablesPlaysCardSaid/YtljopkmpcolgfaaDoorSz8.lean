/-
  Package tables: Sizes.
-/
import Derived.Test.YtljopkmpcolgfaaDoorIt8
import Derived.Test.YtljopkmpcolgfaaDoorIln
namespace Go.Proofs.YtljopkmpcolgfaaDoor
open Flo Go.RowKit Go.Maps Go.Sort Go.Shelf Go.MuLone

/-- an iterator over the numbers ks, its blocks from lo on -/
def It (lo : Nat) (w : World) (Bs : Nat) (ks : List Nat) : Prop := lo ≤ Bs ∧ ∃ sv, w.cell? ⟨Bs, 0, none⟩ = some sv ∧ Ints (fun b => lo ≤ b) w sv ks
theorem It.fr {S : Nat → Prop} {lo Bs : Nat} {w w' : World} {ks : List Nat} (h : It lo w Bs ks) (hf : Fr S w w') (hS : ∀ b, lo ≤ b → b < w.heap.size → ¬ S b) : It lo w' Bs ks := by
  obtain ⟨h1, sv, h2, h3⟩ := h
  have hB := World.block_lt_of_cell? w _ h2
  refine ⟨h1, sv, hf.cell h2 (hS Bs h1 hB), ?_⟩
  rcases h3 with h3 | ⟨b, cap, hz, e, hb, hc⟩
  · exact .inl h3
  · exact .inr ⟨b, cap, hz, e, hb, fun j hj => by
      have := hc j hj
      exact hf.cell this (hS b hb (World.block_lt_of_cell? w _ this))⟩
theorem It.below {lo Bs : Nat} {w w' : World} {ks : List Nat} (h : It lo w Bs ks) (hb : Below w.heap.size w w') : It lo w' Bs ks :=
  h.fr (S := fun k => w.heap.size ≤ k) (Fr.of_below hb fun _ h _ => h) (fun b _ h2 h3 => by omega)
theorem It.low {lo lo' Bs : Nat} {w : World} {ks : List Nat} (h : It lo w Bs ks) (hl : lo' ≤ lo) : It lo' w Bs ks := by
  obtain ⟨h1, sv, h2, h3⟩ := h
  refine ⟨Nat.le_trans hl h1, sv, h2, ?_⟩
  rcases h3 with h3 | ⟨b, cap, hz, e, hb, hc⟩
  · exact .inl h3
  · exact .inr ⟨b, cap, hz, e, Nat.le_trans hl hb, hc⟩
theorem It.lt {lo Bs : Nat} {w : World} {ks : List Nat} (h : It lo w Bs ks) : Bs < w.heap.size := by
  obtain ⟨h1, sv, h2, h3⟩ := h
  exact World.block_lt_of_cell? w _ h2
theorem It.ints {lo Bs : Nat} {w : World} {ks : List Nat} (h : It lo w Bs ks) : ∃ sv, w.cell? ⟨Bs, 0, none⟩ = some sv ∧ Ints (· < w.heap.size) w sv ks := by
  obtain ⟨h1, sv, h2, h3⟩ := h
  refine ⟨sv, h2, ?_⟩
  rcases h3 with h3 | ⟨b, cap, hz, e, hb, hc⟩
  · exact .inl h3
  · have hp : 0 < ks.length := List.length_pos_iff.2 hz
    exact .inr ⟨b, cap, hz, e, World.block_lt_of_cell? w _ (hc 0 hp), hc⟩
theorem ints_own {B lo : Nat} {w : World} {v : Value} {ks : List Nat} (hl : lo ≤ B) (h : w.ownsRow B 3 1 v ks.length (il ks)) (hn : v = .slice none 0 0 ↔ ks = []) : Ints (fun b => lo ≤ b) w v ks := by
  by_cases hz : ks = []
  · exact .inl ⟨hn.2 hz, hz⟩
  rcases h.2 with ⟨h1, h2⟩ | ⟨g, cap, cur, rfl, h1, h2, h3⟩
  · exact absurd (List.length_eq_zero_iff.1 h2) hz
  · refine .inr ⟨g, cap, hz, rfl, Nat.le_trans hl h1, fun j hj => ?_⟩
    have := h.cellAt j (by omega)
    rw [il_get ks j hj] at this
    rw [this]; simp [List.getD]
section
variable {F : Nat → Prop} {w : World} {t bm made : Nat} {ks : List Nat}
set_option maxRecDepth 100000 in
set_option maxHeartbeats 4000000 in
theorem sizesIt_c (h : TB F w t bm ks made) :
    Calls Tryd.prog 22 #[.pointer (some ⟨t, 0, none⟩)] w fun e w' => ∃ Bs, e = .returned (.func (.func 47) #[] #[.pointer (some ⟨Bs, 0, none⟩)]) ∧ TB F w' t bm ks made ∧ Fr (tb t bm) w w' ∧ It w.heap.size w' Bs ks := by
  have k1 : Hid (TBx F (w.setCell ⟨t, 0, none⟩ (.int .i32 1)) t bm 1 ks made) := h.set0 1
  obtain ⟨D, g, ho, hk, hc⟩ := k1.out.map_
  have c0 := h.c0
  have f0 := h.f0
  have e1 := k1.out.c2
  have hsrt : Hid (ks.Pairwise (· < ·)) := h.srt
  have hfew := h.few
  have htl : Hid (t < w.heap.size) := h.lt
  have hbl : Hid (bm < w.heap.size) := h.blt
  have kf : Hid (Fr (tb t bm) w (w.setCell ⟨t, 0, none⟩ (.int .i32 1))) := tb_set _ 0
  have hsz : Hid ((w.setCell ⟨t, 0, none⟩ (.int .i32 1)).heap.size = w.heap.size) := (by simp [World.setCell] : (w.setCell ⟨t, 0, none⟩ (.int .i32 1)).heap.size = w.heap.size)
  have ho' : Hid ((w.setCell ⟨t, 0, none⟩ (.int .i32 1)).ownsMap Tryd.prog 3 kv8 bm 16384 D) := ho
  have hk' : Hid (KD D ks g) := hk
  have hs' : Hid (Maps.size D = ks.length) := kd_size Tryd.underlying3 ho hk h.srt
  clear h ho hk hc
  go_enter_defers Tryd.func22, Tryd.ntmps22
  go_wp2_with (go_at_call 30; refine (lock_free muLib ⟨t, 0, none⟩ _ c0 f0).mono ?_; rintro e w' ⟨rfl, rfl⟩)
  generalize w.setCell ⟨t, 0, none⟩ (.int .i32 1) = wa at *
  refine (keys8_c (some bm) wa).mono ?_
  rintro e w2 ⟨rfl, rfl⟩
  go_wp2_with fail
  refine (sorted8_c bm 16384 D kv8 wa ho'.out (by rw [hs'.out]; unfold maxLen; omega) (by rw [hs'.out]; omega)).mono ?_
  rintro e w3 ⟨v, ss, rfl, hp, hrow, hnil, B3⟩
  have e4 : ss.length = ks.length := by
    have := (hp.trans (kd_perm Tryd.underlying3 ho'.out hk'.out hsrt.out).symm).length_eq
    simpa using this
  rw [kd_sorted Tryd.underlying3 ho'.out hk'.out hsrt.out hp, e4] at hrow
  have hrow' : w3.ownsRow w.heap.size 3 1 v ks.length (il ks) := by
    have : (ks.map fun x : Nat => (x : Int)).map encZ = il ks := by simp [il, encZ]
    rw [this] at hrow
    exact own_base hrow (by have := hsz.out; rw [World.size_alloc]; omega)
  have hI : Hid (Ints (fun b => w.heap.size ≤ b) w3 v ks) := ints_own (Nat.le_refl _) hrow' (hnil.trans ⟨fun e => List.length_eq_zero_iff.1 (by rw [← e4, e]; rfl), fun e => List.length_eq_zero_iff.1 (by rw [e4, e]; rfl)⟩)
  have B3' : Hid (Below wa.heap.size wa w3) := ((Below.refl _ wa).alloc (Nat.le_refl _) _).trans (B3.mono (by simp))
  have k3 : Hid (TBx F w3 t bm 1 ks made) := k1.out.below B3'.out
  have kf3 : Hid (Fr (tb t bm) w w3) := kf.out.then (Fr.of_below B3'.out fun k a b => absurd b (by omega))
  obtain ⟨ao, len, cap, rfl⟩ : ∃ ao len cap, v = .slice ao len cap := by
    obtain ⟨ao, cap, e⟩ := owns_slice hrow'
    exact ⟨ao, _, cap, e⟩
  clear hp hrow hrow' hnil B3 e4 k1 kf ho' hk' hs' hsrt B3' hsz e1
  go_wp2_with fail
  refine (values_c ao len cap w3).mono ?_
  rintro e w4 ⟨rfl, rfl⟩
  have b4 : Below w3.heap.size w3 (w3.alloc (.cells #[.slice ao len cap] 28)) := (Below.refl _ _).alloc (Nat.le_refl _) _
  have k4 : Hid (TBx F (w3.alloc (.cells #[.slice ao len cap] 28)) t bm 1 ks made) := k3.out.below b4
  have kf4 : Hid (Fr (tb t bm) w (w3.alloc (.cells #[.slice ao len cap] 28))) := kf3.out.alloc _
  have it4 : Hid (It w.heap.size (w3.alloc (.cells #[.slice ao len cap] 28)) w3.heap.size ks) := by
    have : It w.heap.size (w3.alloc (.cells #[.slice ao len cap] 28)) w3.heap.size ks := by
      refine ⟨kf3.out.size, _, (cell_at (heap_alloc_new w3 _) 0), ?_⟩
      rcases hI.out with h | ⟨b, cap', hz, e, hb, hc⟩
      · exact .inl h
      · refine .inr ⟨b, cap', hz, e, hb, fun j hj => ?_⟩
        have := hc j hj
        rw [World.cell?_alloc_lt w3 _ _ (World.block_lt_of_cell? w3 _ this)]; exact this
    exact this
  clear k3 kf3 hI b4
  go_wp2_with fail
  refine leaves_cons (f := 31) (args := #[.pointer (some ⟨t, 0, none⟩)]) (by simp) (by simp [go_sem]) ?_
  refine (unlock_deferred muLib ⟨t, 0, none⟩ .returning _ k4.out.c0 k4.out.f0).mono ?_
  rintro e u' w'' ⟨rfl, rfl, rfl⟩
  refine ⟨_, results_tmp rfl _ _ _, _, rfl, k4.out.set0 0, kf4.out.then (tb_set _ 0), it4.out.fr (tb_set (bm := bm) _ 0) (fun b hb _ => ?_)⟩
  have := htl.out
  have := hbl.out
  rintro (e | e) <;> omega
end
end Go.Proofs.YtljopkmpcolgfaaDoor
