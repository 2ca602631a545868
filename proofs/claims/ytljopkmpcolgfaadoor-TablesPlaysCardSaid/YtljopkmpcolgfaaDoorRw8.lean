/-
  A Tables and the document's Tables beside it; tells.
-/
import Derived.Test.YtljopkmpcolgfaaDoorRt8
import Derived.Test.YtljopkmpcolgfaaDoorSmi
import Derived.Deep.RegionHeld3
namespace Go.Proofs.YtljopkmpcolgfaaDoor
open Flo Go.RowKit Go.Maps Go.MuLone
/-- a Tables and the document's, both of F -/
def PR (F : Nat → Prop) (w : World) (t r : Nat) (ks : List Nat) (made : Nat) : Prop :=
  ∃ Ft Fx bm, TB Ft w t bm ks made ∧ RT Fx w r ks made ∧ (∀ k, k < w.heap.size → Ft k → F k) ∧ (∀ k, k < w.heap.size → Fx k → F k) ∧ ∀ k, k < w.heap.size → Ft k → ¬ Fx k
section
variable {F G S : Nat → Prop} {w w' : World} {t r made : Nat} {ks : List Nat}
theorem RT.cut (h : RT F w r ks made) : RT (fun k => F k ∧ k < w.heap.size) w r ks made := h.to fun _ hk h => ⟨h, hk⟩
theorem TB.cut {bm : Nat} (h : TB F w t bm ks made) : TB (fun k => F k ∧ k < w.heap.size) w t bm ks made := TBx.to h fun _ hk h => ⟨h, hk⟩
theorem PR.to (h : PR F w t r ks made) (hG : ∀ k, k < w.heap.size → F k → G k) : PR G w t r ks made := by
  obtain ⟨Ft, Fx, bm, T, R, h1, h2, h3⟩ := h
  exact ⟨Ft, Fx, bm, T, R, fun k hk h => hG k hk (h1 k hk h), fun k hk h => hG k hk (h2 k hk h), h3⟩
theorem PR.under (h : PR F w t r ks made) (hf : Fr S w w') (hS : ∀ k, k < w.heap.size → S k → ¬ F k) : PR F w' t r ks made := by
  obtain ⟨Ft, Fx, bm, T, R, h1, h2, h3⟩ := h
  refine ⟨_, _, bm, T.cut.under hf fun k hk hs hc => hS k hk hs (h1 k hk hc.1), R.cut.under hf fun k hk hs hc => hS k hk hs (h2 k hk hc.1), fun k _ hc => h1 k hc.2 hc.1, fun k _ hc => h2 k hc.2 hc.1, fun k _ hc hd => h3 k hc.2 hc.1 hd.1⟩
/-- what of the document's half can be read while the program's half is called -/
def Rdx (w : World) (t bm r : Nat) (vx : Value) (ks : List Nat) (made : Nat) : Prop :=
  ∀ W, Fr (tb t bm) w W → W.cell? ⟨r, 0, none⟩ = some vx ∧ W.cell? ⟨r, 1, none⟩ = some (.int .i64 (made : Int)) ∧ RdI W vx ks
/-- the program's half was called: its set takes what is new -/
theorem PR.prog (h : PR F w t r ks made) : ∃ Ft bm, (∀ k, w.heap.size ≤ k → Ft k) ∧ TB Ft w t bm ks made ∧ (∃ vx, Rdx w t bm r vx ks made) ∧ (∀ k, k < w.heap.size → tb t bm k → F k) ∧
    ∀ w' ks' made', TB Ft w' t bm ks' made' → Fr (tb t bm) w w' → (∀ k, w.heap.size ≤ k → F k) → Fr F w w' ∧ ∃ Fx, (∀ k, w'.heap.size ≤ k → Fx k) ∧ RT Fx w' r ks made ∧
      ∀ w2 ks2 made2, Fr Fx w' w2 → (RT Fx w2 r ks2 made2 → ks2 = ks' → made2 = made' → PR F w2 t r ks' made') ∧ Fr F w w2 := by
  obtain ⟨Ft, Fx, bm, T, R, h1, h2, h3⟩ := h
  have T0 : TB (fun k => Ft k ∨ w.heap.size ≤ k) w t bm ks made := TBx.to T fun k _ h => .inl h
  have hft : Ft t := T.ft
  have hfb : Ft bm := T.fb
  refine ⟨fun k => Ft k ∨ w.heap.size ≤ k, bm, fun k hk => .inr hk, T0, ?_, fun k hk hs => h1 k hk (by rcases hs with rfl | rfl <;> assumption), fun w' ks' made' T' hf hF => ?_⟩
  · obtain ⟨vx, V⟩ := R
    refine ⟨vx, fun W hf => ?_⟩
    have V' := V.toRL.under hf fun k hk hs hc => h3 k hk (by rcases hs with rfl | rfl <;> assumption) hc
    exact ⟨V'.c0, V'.c1, RdI.of_own V'.own⟩
  have hF1 : Fr F w w' := hf.mono fun k hk hs => h1 k hk (by rcases hs with rfl | rfl <;> assumption)
  refine ⟨hF1, fun k => (Fx k ∧ k < w.heap.size) ∨ w'.heap.size ≤ k, fun k hk => .inr hk, ?_, fun w2 ks2 made2 hf2 => ⟨fun R2 e1 e2 => ?_, ?_⟩⟩
  · exact (R.cut.under hf fun k hk hs hc => h3 k hk (by rcases hs with rfl | rfl <;> assumption) hc.1).to fun k _ h => .inl h
  · subst e1 e2
    refine ⟨_, _, bm, (TBx.to T' (G := fun k => (Ft k ∨ w.heap.size ≤ k) ∧ k < w'.heap.size) fun k hk h => ⟨h, hk⟩).under hf2 ?_, R2, ?_, ?_, ?_⟩
    · rintro k hk (hs | hs) ⟨hc | hc, _⟩
      · exact h3 k hs.2 hc hs.1
      · omega
      · omega
      · omega
    · rintro k hk ⟨hc | hc, _⟩
      · rcases Nat.lt_or_ge k w.heap.size with h | h
        · exact h1 k h hc
        · exact hF k h
      · exact hF k hc
    · rintro k hk (hc | hc)
      · exact h2 k hc.2 hc.1
      · exact hF k (by have := hf.size; omega)
    · rintro k hk ⟨hc | hc, hc'⟩ (hd | hd)
      · exact h3 k hd.2 hc hd.1
      · omega
      · omega
      · omega
  · refine hF1.trans hf2 ?_
    rintro k (h | h)
    · exact .inl (h2 k h.2 h.1)
    · exact .inr (by have := hf.size; omega)
set_option maxRecDepth 100000 in
set_option maxHeartbeats 4000000 in
theorem tells_c (h : PR F w t r ks made) (hF : ∀ k, w.heap.size ≤ k → F k) :
    Calls Tryd.prog 11 #[.pointer (some ⟨t, 0, none⟩), .pointer (some ⟨r, 0, none⟩)] w fun e w' => e = .returned (.bool true) ∧ PR F w' t r ks made ∧ Fr F w w' := by
  have hfew : ks.length ≤ 16384 := by
    obtain ⟨_, _, _, T, _⟩ := h
    exact TBx.few T
  obtain ⟨Ft, bm, hnew, T, ⟨vx, hx⟩, _, hP⟩ := h.prog
  have hP' : Hid (∀ w' ks' made', TB Ft w' t bm ks' made' → Fr (tb t bm) w w' → (∀ k, w.heap.size ≤ k → F k) → Fr F w w' ∧ ∃ Fx, (∀ k, w'.heap.size ≤ k → Fx k) ∧ RT Fx w' r ks made ∧
      ∀ w2 ks2 made2, Fr Fx w' w2 → (RT Fx w2 r ks2 made2 → ks2 = ks' → made2 = made' → PR F w2 t r ks' made') ∧ Fr F w w2) := hP
  have hF' : Hid (∀ k, w.heap.size ≤ k → F k) := hF
  have T' : Hid (TB Ft w t bm ks made) := T
  have hx' : Hid (Rdx w t bm r vx ks made) := hx
  have s1 : Hid (t < w.heap.size) := T.lt
  have s2 : Hid (bm < w.heap.size) := T.blt
  clear hP hF T hnew h hx
  go_enter Tryd.func11, Tryd.ntmps11
  go_wp2_with fail
  refine (sizes_c T'.out).mono ?_
  rintro e w1 ⟨v, rfl, O1, T1, F1⟩
  have O1' : Hid (w1.ownsRow w.heap.size 3 1 v ks.length (il ks)) := O1
  have TD : Hid (TB Ft w1.drew t bm ks made) := TBx.below T1 ((Below.refl _ _).drew)
  have F1' : Hid (Fr (tb t bm) w w1.drew) := F1.drew
  obtain ⟨c0, c1, _⟩ := hx'.out w1 F1
  clear O1 T1 F1
  have tok1 : True := trivial
  go_wp2_with fail
  go_region_held3 (fun W => W.cell? ⟨r, 0, none⟩ = some vx ∧ W.cell? ⟨r, 1, none⟩ = some (.int .i64 (made : Int))) (go_keep) ((first
    | (go_at_call 15
       refine (made_c TD.out).mono ?_
       rintro e w2 ⟨rfl, T2, F2⟩
       have T2' : Hid (TB Ft w2 t bm ks made) := T2
       have F2' : Hid (Fr (tb t bm) w w2) := F1'.out.then F2
       have O2 : Hid (w2.ownsRow w.heap.size 3 1 v ks.length (il ks)) := F2.owns O1'.out (fun b hb hs => by have := (O1'.out.lt b hb).1; have := s1.out; have := s2.out; rcases hs with e | e <;> omega)
       have c2 := (hx'.out w2 F2'.out).1
       have c3 := (hx'.out w2 F2'.out).2.1
       clear T2 F2)
    | (go_at_call 26
       refine (sameInts_c v vx ks ks w2 (RdI.of_own O2.out) (hx'.out w2 F2'.out).2.2 (by omega)).mono ?_
       rintro e w3 ⟨rfl, q, rfl⟩
       have c4 : (w2.drewN q).cell? ⟨r, 0, none⟩ = some vx := c2
       have c5 : (w2.drewN q).cell? ⟨r, 1, none⟩ = some (.int .i64 (made : Int)) := c3)))
  obtain ⟨_, Fx, _, R2, hQ⟩ := hP'.out w2 ks made T2'.out F2'.out hF'.out
  have P3 : Hid (PR F (w2.drewN q) t r ks made) := (hQ (w2.drewN q) ks made ((Fr.refl _ w2).drewN q)).1 (R2.drewN q) rfl rfl
  have F3 : Hid (Fr F w (w2.drewN q)) := (hQ (w2.drewN q) ks made ((Fr.refl _ w2).drewN q)).2
  go_wp2_with fail
  go_ret
  exact ⟨rfl, P3.out, F3.out⟩
end
end Go.Proofs.YtljopkmpcolgfaaDoor
