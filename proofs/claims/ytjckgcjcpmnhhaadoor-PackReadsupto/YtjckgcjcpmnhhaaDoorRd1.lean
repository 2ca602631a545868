/-
  The statements' own 'read': one call on both Readers.
-/
import Derived.Test.YtjckgcjcpmnhhaaDoorMrn
import Derived.Test.YtjckgcjcpmnhhaaDoorMpb
namespace Go.Proofs.YtjckgcjcpmnhhaaDoor
open Flo Go.RowKit
theorem rv_errs : ∀ (l : List Nat) (i x c : Nat), Pk.rv i x l = .error c → c ≤ 1
  | [], i, x, c, h => by cases h; decide
  | b :: l, i, x, c, h => by
    by_cases h9 : i = 9 ∧ 1 < b
    · rw [Pk.rv_nine h9.1 h9.2] at h; cases h; decide
    · by_cases hb : b < 128
      · by_cases h0 : b = 0 ∧ 0 < i
        · rw [Pk.rv_zero h9 h0.1 h0.2] at h; cases h; decide
        · rw [Pk.rv_last h9 hb h0] at h; cases h
      · rw [Pk.rv_more h9 hb] at h
        exact rv_errs l _ _ c h
theorem upr_errs {most : Int} {l : List Nat} {c : Nat} (h : upr most (Pk.rv 0 0 l) = .error c) : c ≤ 12 := by
  cases hr : Pk.rv 0 0 l with
  | error e => rw [hr, upr_e] at h; cases h; have := rv_errs _ _ _ _ hr; omega
  | ok p =>
    obtain ⟨x, n⟩ := p
    rw [hr] at h
    by_cases hm : most < 0 ∨ most < (x : Int)
    · rw [upr_lim hm] at h; cases h; decide
    · rw [upr_ok hm] at h; cases h
theorem rfl_errs {bs : List Nat} {k c : Nat} (h : rfl_ bs k = .error c) : c ≤ 12 := by
  unfold rfl_ at h
  split at h
  · cases h; decide
  · split at h <;> cases h; decide
theorem rcx_errs {bs : List Nat} {k c : Nat} (h : rcx bs k = .error c) : c ≤ 12 := by
  unfold rcx at h
  split at h
  · cases h; decide
  · split at h <;> cases h; decide
theorem rnw_errs {bs : List Nat} {k c : Nat} (h : rnw bs k = .error c) : c ≤ 12 := by
  unfold rnw at h
  split at h
  · cases h; decide
  · split at h <;> cases h; decide
theorem rtx_errs {most : Int} {bs : List Nat} {k c : Nat} (h : rtx most bs k = .error c) : c ≤ 12 := by
  cases hr : upr most (Pk.rv 0 0 (bs.drop k)) with
  | error e => rw [rtx_e hr] at h; cases h; exact upr_errs hr
  | ok p =>
    obtain ⟨x, n⟩ := p
    by_cases hs : bs.length - (k + n) < x
    · rw [rtx_s hr hs] at h; cases h; decide
    · rw [rtx_ok hr hs] at h; cases h
theorem go_errs {α : Type} {rd : Nat → Except Nat (α × Nat)} (hrd : ∀ k c, rd k = .error c → c ≤ 12) : ∀ (n k : Nat) (acc : List α) (c : Nat), go_ rd n k acc = .error c → c ≤ 12
  | 0, k, acc, c, h => by cases h
  | n + 1, k, acc, c, h => by
    cases hr : rd k with
    | error e => rw [go_err hr (by omega)] at h; cases h; exact hrd k _ hr
    | ok p =>
      obtain ⟨x, m⟩ := p
      rw [go_ok hr (by omega)] at h
      exact go_errs hrd n _ _ c h
theorem rli_errs {α : Type} {rd : Nat → Except Nat (α × Nat)} (hrd : ∀ k c, rd k = .error c → c ≤ 12) {bs : List Nat} {k c : Nat} (h : rli rd bs k = .error c) : c ≤ 12 := by
  cases hr : upr 1048576 (Pk.rv 0 0 (bs.drop k)) with
  | error e => rw [rli_err hr] at h; cases h; exact upr_errs hr
  | ok p =>
    obtain ⟨x, n⟩ := p
    cases hg : go_ rd x (k + n) [] with
    | error e => rw [rli_ge hr hg] at h; cases h; exact go_errs hrd _ _ _ _ hg
    | ok q =>
      obtain ⟨xs, m⟩ := q
      rw [rli_gk hr hg] at h; cases h
/-- the number of what came back -/
theorem num_ue {α : Type} (al : List Addr) (r : Except Nat α) (hr : ∀ c, r = .error c → c ≤ 12) (w : World) (he : Errs w al) :
    Calls Tryd.prog 16 #[ue al r] w fun e w' => e = .returned (.int .i64 (en r : Nat)) ∧ Below w.heap.size w w' := by
  cases r with
  | ok a => exact (num_nil w).mono fun _ _ h => ⟨h.1, by rw [← h.2]; exact Below.refl _ _⟩
  | error c => exact (num_err al c (by have := hr c rfl; omega) w he).mono fun _ _ h => ⟨by rw [h.1, en_err]; rfl, h.2⟩
/-- the two Readers -/
structure Two (R T : Nat → Prop) (w : World) (gr gt : Nat) (bs : List Nat) (p : Nat) : Prop where
  r : Rr R w gr bs p
  t : Rr T w gt bs p
  ap : ∀ j, R j → ¬ T j
theorem Two.rg {R T : Nat → Prop} {w : World} {gr gt : Nat} {bs : List Nat} {p : Nat} (h : Two R T w gr gt bs p) : R gr ∧ T gt := by
  obtain ⟨v, h1⟩ := h.r
  obtain ⟨v2, h2⟩ := h.t
  exact ⟨h1.rg, h2.rg⟩
theorem ownU_fr0 {S : Nat → Prop} {e : TypeId} {w w' : World} {v : Value} {us : List Value} (h : OwU e w v us) (hf : Fr S w w') (hn : ∀ b, v.ownBlock = some b → ¬ S b) : OwU e w' v us := Fr.owns hf h hn
theorem ownU_src0 {e : TypeId} {w : World} {v : Value} {us : List Value} (h : OwU e w v us) : SrcL (fun _ => False) w v us := by
  have hh : w.ownsRow 0 e 1 v us.length us := h
  rcases hh.2 with ⟨rfl, h1⟩ | ⟨q, cap, cur, rfl, hbg, hg, hnc, hcm, hcs, htake⟩
  · exact ⟨none, 0, by rw [h1], .inl (List.eq_nil_of_length_eq_zero h1)⟩
  · refine ⟨_, cap, rfl, .inr ⟨q, 0, rfl, id, fun i hi => ?_⟩⟩
    rw [Nat.zero_add, hh.cellAt i (by omega)]
    simp [List.getD, hi]
set_option maxRecDepth 100000 in
set_option maxHeartbeats 4000000 in
theorem read_0 (R T : Nat → Prop) (gr gt p : Nat) (bs : List Nat) (al : List Addr) (n : Int) (u v : Nat) (s : ByteArray) (lo : Option Addr) (ln lc : Nat) (w : World) (h : Two R T w gr gt bs p) (hE : ∀ W, Fr (fun j => j = gr ∨ j = gt) w W → Errs W al) :
    Calls Tryd.prog 13 #[.pointer (some ⟨gr, 0, none⟩), .pointer (some ⟨gt, 0, none⟩), vl 0 u v s (.slice lo ln lc) n] w fun e w' => e = .returned (.bool true) ∧ (∃ p', Two R T w' gr gt bs p') ∧ Fr (fun j => j = gr ∨ j = gt) w w' := by
  unfold vl
  obtain ⟨w1, hw1⟩ : ∃ w1, Hid (w1 = w.alloc (.cells #[.int .i64 0, .int .u64 (u : Int), .int .u64 (v : Int), .string s, .slice lo ln lc, .int .i64 n] 30)) := ⟨_, rfl⟩
  have hbx : Hid (Bx w1 w.heap.size 0 u v s (.slice lo ln lc) n) := by rw [hw1.out]; exact box_bx w 0 u v s _ n
  have hB1 : Hid (Below w.heap.size w w1) := by rw [hw1.out]; exact (Below.refl _ _).alloc (Nat.le_refl _) _
  have hF1 : Hid (Fr (fun j => j = gr ∨ j = gt) w w1) := fr_below hB1.out
  have hR1 : Hid (Rr R w1 gr bs p) := rr_below h.r hB1.out
  have hT1 : Hid (Rr T w1 gt bs p) := rr_below h.t hB1.out
  have hap : Hid (∀ j, R j → ¬ T j) := h.ap
  have hrg : Hid (R gr ∧ T gt) := h.rg
  have hlt : Hid (gr < w.heap.size ∧ gt < w.heap.size) := ⟨h.r.lt, h.t.lt⟩
  have hEH : Hid (∀ W, Fr (fun j => j = gr ∨ j = gt) w W → Errs W al) := hE
  have hby : Hid (∀ b ∈ bs, b < 256) := h.r.byt
  have hpl : Hid (p ≤ bs.length) := h.r.le
  have hrc : Hid (∀ c, Pk.rv 0 0 (bs.drop p) = .error c → c ≤ 12) := fun c hc => by have := rv_errs _ _ _ _ hc; omega
  clear h hE
  go_enter Tryd.func13, Tryd.ntmps13
  go_wp2_with fail
  rw [← hw1.out]
  refine (ruint_c R gr p bs al w1 hR1.out (e5_of (hEH.out w1 hF1.out))).mono ?_
  rintro e w2 ⟨rfl, h1, h2⟩
  have hR2 : Hid (Rr R w2 gr bs (p + Pk.ud (Pk.rv 0 0 (bs.drop p)))) := h1
  have hF2 : Hid (Fr (fun j => j = gr ∨ j = gt) w w2) := hF1.out.then (h2.mono fun _ _ hh => .inl hh)
  have hT2 : Hid (Rr T w2 gt bs p) := hT1.out.under h2 fun j _ hj ht => hap.out j (by have h7 : j = gr := hj; rw [h7]; exact hrg.out.1) ht
  clear h1 h2
  go_wp2_with fail
  refine (tuint_c T gt p bs w2 hT2.out).mono ?_
  rintro e w3 ⟨rfl, h3, h4⟩
  have hT3 : Hid (Rr T w3 gt bs (p + Pk.ud (Pk.rv 0 0 (bs.drop p)))) := h3
  have hF3 : Hid (Fr (fun j => j = gr ∨ j = gt) w w3) := hF2.out.then (h4.mono fun _ _ hh => .inr hh)
  have hR3 : Hid (Rr R w3 gr bs (p + Pk.ud (Pk.rv 0 0 (bs.drop p)))) := hR2.out.under h4 fun j _ hj hr => hap.out j hr (by have h7 : j = gt := hj; rw [h7]; exact hrg.out.2)
  clear h3 h4
  generalize Pk.ux (Pk.rv 0 0 (bs.drop p)) = X
  go_wp2_with fail
  refine (num_ue al (Pk.rv 0 0 (bs.drop p)) hrc.out w3 (hEH.out w3 hF3.out)).mono ?_
  rintro e w4 ⟨rfl, hb4⟩
  have hb4H : Hid (Below w3.heap.size w3 w4) := hb4
  clear hb4
  go_wp2
  go_ret
  exact ⟨by simp, ⟨_, rr_below hR3.out hb4H.out, rr_below hT3.out hb4H.out, hap.out⟩, hF3.out.then (fr_below hb4H.out)⟩
set_option maxRecDepth 100000 in
set_option maxHeartbeats 4000000 in
theorem read_1 (R T : Nat → Prop) (gr gt p : Nat) (bs : List Nat) (al : List Addr) (n : Int) (u v : Nat) (s : ByteArray) (lo : Option Addr) (ln lc : Nat) (w : World) (h : Two R T w gr gt bs p) (hE : ∀ W, Fr (fun j => j = gr ∨ j = gt) w W → Errs W al) :
    Calls Tryd.prog 13 #[.pointer (some ⟨gr, 0, none⟩), .pointer (some ⟨gt, 0, none⟩), vl 1 u v s (.slice lo ln lc) n] w fun e w' => e = .returned (.bool true) ∧ (∃ p', Two R T w' gr gt bs p') ∧ Fr (fun j => j = gr ∨ j = gt) w w' := by
  unfold vl
  obtain ⟨w1, hw1⟩ : ∃ w1, Hid (w1 = w.alloc (.cells #[.int .i64 1, .int .u64 (u : Int), .int .u64 (v : Int), .string s, .slice lo ln lc, .int .i64 n] 30)) := ⟨_, rfl⟩
  have hbx : Hid (Bx w1 w.heap.size 1 u v s (.slice lo ln lc) n) := by rw [hw1.out]; exact box_bx w 1 u v s _ n
  have hB1 : Hid (Below w.heap.size w w1) := by rw [hw1.out]; exact (Below.refl _ _).alloc (Nat.le_refl _) _
  have hF1 : Hid (Fr (fun j => j = gr ∨ j = gt) w w1) := fr_below hB1.out
  have hR1 : Hid (Rr R w1 gr bs p) := rr_below h.r hB1.out
  have hT1 : Hid (Rr T w1 gt bs p) := rr_below h.t hB1.out
  have hap : Hid (∀ j, R j → ¬ T j) := h.ap
  have hrg : Hid (R gr ∧ T gt) := h.rg
  have hlt : Hid (gr < w.heap.size ∧ gt < w.heap.size) := ⟨h.r.lt, h.t.lt⟩
  have hEH : Hid (∀ W, Fr (fun j => j = gr ∨ j = gt) w W → Errs W al) := hE
  have hby : Hid (∀ b ∈ bs, b < 256) := h.r.byt
  have hpl : Hid (p ≤ bs.length) := h.r.le
  have hrc : Hid (∀ c, Pk.rv 0 0 (bs.drop p) = .error c → c ≤ 12) := fun c hc => by have := rv_errs _ _ _ _ hc; omega
  clear h hE
  go_enter Tryd.func13, Tryd.ntmps13
  go_wp2_with fail
  rw [← hw1.out]
  refine (rint_c R gr p bs al w1 hR1.out (e5_of (hEH.out w1 hF1.out))).mono ?_
  rintro e w2 ⟨rfl, h1, h2⟩
  have hR2 : Hid (Rr R w2 gr bs (p + Pk.ud (Pk.rv 0 0 (bs.drop p)))) := h1
  have hF2 : Hid (Fr (fun j => j = gr ∨ j = gt) w w2) := hF1.out.then (h2.mono fun _ _ hh => .inl hh)
  have hT2 : Hid (Rr T w2 gt bs p) := hT1.out.under h2 fun j _ hj ht => hap.out j (by have h7 : j = gr := hj; rw [h7]; exact hrg.out.1) ht
  clear h1 h2
  go_wp2_with fail
  refine (tint_c T gt p bs w2 hT2.out).mono ?_
  rintro e w3 ⟨rfl, h3, h4⟩
  have hT3 : Hid (Rr T w3 gt bs (p + Pk.ud (Pk.rv 0 0 (bs.drop p)))) := h3
  have hF3 : Hid (Fr (fun j => j = gr ∨ j = gt) w w3) := hF2.out.then (h4.mono fun _ _ hh => .inr hh)
  have hR3 : Hid (Rr R w3 gr bs (p + Pk.ud (Pk.rv 0 0 (bs.drop p)))) := hR2.out.under h4 fun j _ hj hr => hap.out j hr (by have h7 : j = gt := hj; rw [h7]; exact hrg.out.2)
  clear h3 h4
  generalize zz (Pk.ux (Pk.rv 0 0 (bs.drop p))) = X
  go_wp2_with fail
  refine (num_ue al (Pk.rv 0 0 (bs.drop p)) hrc.out w3 (hEH.out w3 hF3.out)).mono ?_
  rintro e w4 ⟨rfl, hb4⟩
  have hb4H : Hid (Below w3.heap.size w3 w4) := hb4
  clear hb4
  go_wp2
  go_ret
  exact ⟨by simp, ⟨_, rr_below hR3.out hb4H.out, rr_below hT3.out hb4H.out, hap.out⟩, hF3.out.then (fr_below hb4H.out)⟩
set_option maxRecDepth 100000 in
set_option maxHeartbeats 4000000 in
theorem read_8 (R T : Nat → Prop) (gr gt p : Nat) (bs : List Nat) (al : List Addr) (n : Int) (u v : Nat) (s : ByteArray) (lo : Option Addr) (ln lc : Nat) (w : World) (h : Two R T w gr gt bs p) (hE : ∀ W, Fr (fun j => j = gr ∨ j = gt) w W → Errs W al) (hg : ¬ gr < 5) (hn : n ≤ 9223372036854775807) :
    Calls Tryd.prog 13 #[.pointer (some ⟨gr, 0, none⟩), .pointer (some ⟨gt, 0, none⟩), vl 8 u v s (.slice lo ln lc) n] w fun e w' => e = .returned (.bool true) ∧ (∃ p', Two R T w' gr gt bs p') ∧ Fr (fun j => j = gr ∨ j = gt) w w' := by
  unfold vl
  obtain ⟨w1, hw1⟩ : ∃ w1, Hid (w1 = w.alloc (.cells #[.int .i64 8, .int .u64 (u : Int), .int .u64 (v : Int), .string s, .slice lo ln lc, .int .i64 n] 30)) := ⟨_, rfl⟩
  have hbx : Hid (Bx w1 w.heap.size 8 u v s (.slice lo ln lc) n) := by rw [hw1.out]; exact box_bx w 8 u v s _ n
  have hB1 : Hid (Below w.heap.size w w1) := by rw [hw1.out]; exact (Below.refl _ _).alloc (Nat.le_refl _) _
  have hF1 : Hid (Fr (fun j => j = gr ∨ j = gt) w w1) := fr_below hB1.out
  have hR1 : Hid (Rr R w1 gr bs p) := rr_below h.r hB1.out
  have hT1 : Hid (Rr T w1 gt bs p) := rr_below h.t hB1.out
  have hap : Hid (∀ j, R j → ¬ T j) := h.ap
  have hrg : Hid (R gr ∧ T gt) := h.rg
  have hlt : Hid (gr < w.heap.size ∧ gt < w.heap.size) := ⟨h.r.lt, h.t.lt⟩
  have hEH : Hid (∀ W, Fr (fun j => j = gr ∨ j = gt) w W → Errs W al) := hE
  have hby : Hid (∀ b ∈ bs, b < 256) := h.r.byt
  have hpl : Hid (p ≤ bs.length) := h.r.le
  have hrc : Hid (∀ c, upr n (Pk.rv 0 0 (bs.drop p)) = .error c → c ≤ 12) := fun c hc => upr_errs hc
  clear h hE
  go_enter Tryd.func13, Tryd.ntmps13
  have c50 := hbx.out.c5
  go_wp2_with fail
  rw [← hw1.out]
  refine (rupto_c R gr p n bs al w1 hR1.out (e5_of (hEH.out w1 hF1.out)) hg hn).mono ?_
  rintro e w2 ⟨rfl, h1, h2⟩
  have hR2 : Hid (Rr R w2 gr bs (p + Pk.ud (upr n (Pk.rv 0 0 (bs.drop p))))) := h1
  have hF2 : Hid (Fr (fun j => j = gr ∨ j = gt) w w2) := hF1.out.then (h2.mono fun _ _ hh => .inl hh)
  have hT2 : Hid (Rr T w2 gt bs p) := hT1.out.under h2 fun j _ hj ht => hap.out j (by have h7 : j = gr := hj; rw [h7]; exact hrg.out.1) ht
  have c51 := (hbx.out.under h2 (fun hh => by have h8 := hlt.out.1; have hh2 : w.heap.size = gr := hh; omega)).c5
  clear h1 h2 c50
  go_wp2_with fail
  refine (tupto2_c T gt p n bs w2 hT2.out hn).mono ?_
  rintro e w3 ⟨rfl, h3, h4⟩
  have hT3 : Hid (Rr T w3 gt bs (p + Pk.ud (upr n (Pk.rv 0 0 (bs.drop p))))) := h3
  have hF3 : Hid (Fr (fun j => j = gr ∨ j = gt) w w3) := hF2.out.then (h4.mono fun _ _ hh => .inr hh)
  have hR3 : Hid (Rr R w3 gr bs (p + Pk.ud (upr n (Pk.rv 0 0 (bs.drop p))))) := hR2.out.under h4 fun j _ hj hr => hap.out j hr (by have h7 : j = gt := hj; rw [h7]; exact hrg.out.2)
  clear h3 h4 c51
  generalize Pk.ux (upr n (Pk.rv 0 0 (bs.drop p))) = X
  go_wp2_with fail
  refine (num_ue al (upr n (Pk.rv 0 0 (bs.drop p))) hrc.out w3 (hEH.out w3 hF3.out)).mono ?_
  rintro e w4 ⟨rfl, hb4⟩
  have hb4H : Hid (Below w3.heap.size w3 w4) := hb4
  clear hb4
  go_wp2
  go_ret
  exact ⟨by simp, ⟨_, rr_below hR3.out hb4H.out, rr_below hT3.out hb4H.out, hap.out⟩, hF3.out.then (fr_below hb4H.out)⟩
set_option maxRecDepth 100000 in
set_option maxHeartbeats 4000000 in
theorem read_2 (R T : Nat → Prop) (gr gt p : Nat) (bs : List Nat) (al : List Addr) (n : Int) (u v : Nat) (s : ByteArray) (lo : Option Addr) (ln lc : Nat) (w : World) (h : Two R T w gr gt bs p) (hE : ∀ W, Fr (fun j => j = gr ∨ j = gt) w W → Errs W al) :
    Calls Tryd.prog 13 #[.pointer (some ⟨gr, 0, none⟩), .pointer (some ⟨gt, 0, none⟩), vl 2 u v s (.slice lo ln lc) n] w fun e w' => e = .returned (.bool true) ∧ (∃ p', Two R T w' gr gt bs p') ∧ Fr (fun j => j = gr ∨ j = gt) w w' := by
  unfold vl
  obtain ⟨w1, hw1⟩ : ∃ w1, Hid (w1 = w.alloc (.cells #[.int .i64 2, .int .u64 (u : Int), .int .u64 (v : Int), .string s, .slice lo ln lc, .int .i64 n] 30)) := ⟨_, rfl⟩
  have hbx : Hid (Bx w1 w.heap.size 2 u v s (.slice lo ln lc) n) := by rw [hw1.out]; exact box_bx w 2 u v s _ n
  have hB1 : Hid (Below w.heap.size w w1) := by rw [hw1.out]; exact (Below.refl _ _).alloc (Nat.le_refl _) _
  have hF1 : Hid (Fr (fun j => j = gr ∨ j = gt) w w1) := fr_below hB1.out
  have hR1 : Hid (Rr R w1 gr bs p) := rr_below h.r hB1.out
  have hT1 : Hid (Rr T w1 gt bs p) := rr_below h.t hB1.out
  have hap : Hid (∀ j, R j → ¬ T j) := h.ap
  have hrg : Hid (R gr ∧ T gt) := h.rg
  have hlt : Hid (gr < w.heap.size ∧ gt < w.heap.size) := ⟨h.r.lt, h.t.lt⟩
  have hEH : Hid (∀ W, Fr (fun j => j = gr ∨ j = gt) w W → Errs W al) := hE
  have hby : Hid (∀ b ∈ bs, b < 256) := h.r.byt
  have hpl : Hid (p ≤ bs.length) := h.r.le
  have hrc : Hid (∀ c, rfl_ bs p = .error c → c ≤ 12) := fun c hc => rfl_errs hc
  clear h hE
  go_enter Tryd.func13, Tryd.ntmps13
  go_wp2_with fail
  rw [← hw1.out]
  refine (rfloat_c R gr p bs al w1 hR1.out (e5_of (hEH.out w1 hF1.out))).mono ?_
  rintro e w2 ⟨rfl, h1, h2⟩
  have hR2 : Hid (Rr R w2 gr bs (p + Pk.ud (rfl_ bs p))) := h1
  have hF2 : Hid (Fr (fun j => j = gr ∨ j = gt) w w2) := hF1.out.then (h2.mono fun _ _ hh => .inl hh)
  have hT2 : Hid (Rr T w2 gt bs p) := hT1.out.under h2 fun j _ hj ht => hap.out j (by have h7 : j = gr := hj; rw [h7]; exact hrg.out.1) ht
  clear h1 h2
  go_wp2_with fail
  refine (tfloat_c T gt p bs w2 hT2.out).mono ?_
  rintro e w3 ⟨rfl, h3, h4⟩
  have hT3 : Hid (Rr T w3 gt bs (p + Pk.ud (rfl_ bs p))) := h3
  have hF3 : Hid (Fr (fun j => j = gr ∨ j = gt) w w3) := hF2.out.then (h4.mono fun _ _ hh => .inr hh)
  have hR3 : Hid (Rr R w3 gr bs (p + Pk.ud (rfl_ bs p))) := hR2.out.under h4 fun j _ hj hr => hap.out j hr (by have h7 : j = gt := hj; rw [h7]; exact hrg.out.2)
  clear h3 h4
  have hxl : Pk.ux (rfl_ bs p) < 18446744073709551616 := rfl_lt hby.out p
  generalize Pk.ux (rfl_ bs p) = X at hxl ⊢
  have q1 : ((bt X : Int) == (bt X : Int)) = true := by simp
  go_wp2_with fail
  refine (rsame_c X X w3 hxl hxl).mono ?_
  rintro e w' ⟨rfl, rfl⟩
  rw [q1]
  go_wp2_with fail
  refine (num_ue al (rfl_ bs p) hrc.out w3 (hEH.out w3 hF3.out)).mono ?_
  rintro e w4 ⟨rfl, hb4⟩
  have hb4H : Hid (Below w3.heap.size w3 w4) := hb4
  clear hb4
  go_wp2
  go_ret
  exact ⟨by simp, ⟨_, rr_below hR3.out hb4H.out, rr_below hT3.out hb4H.out, hap.out⟩, hF3.out.then (fr_below hb4H.out)⟩
set_option maxRecDepth 100000 in
set_option maxHeartbeats 4000000 in
theorem read_3 (R T : Nat → Prop) (gr gt p : Nat) (bs : List Nat) (al : List Addr) (n : Int) (u v : Nat) (s : ByteArray) (lo : Option Addr) (ln lc : Nat) (w : World) (h : Two R T w gr gt bs p) (hE : ∀ W, Fr (fun j => j = gr ∨ j = gt) w W → Errs W al) :
    Calls Tryd.prog 13 #[.pointer (some ⟨gr, 0, none⟩), .pointer (some ⟨gt, 0, none⟩), vl 3 u v s (.slice lo ln lc) n] w fun e w' => e = .returned (.bool true) ∧ (∃ p', Two R T w' gr gt bs p') ∧ Fr (fun j => j = gr ∨ j = gt) w w' := by
  unfold vl
  obtain ⟨w1, hw1⟩ : ∃ w1, Hid (w1 = w.alloc (.cells #[.int .i64 3, .int .u64 (u : Int), .int .u64 (v : Int), .string s, .slice lo ln lc, .int .i64 n] 30)) := ⟨_, rfl⟩
  have hbx : Hid (Bx w1 w.heap.size 3 u v s (.slice lo ln lc) n) := by rw [hw1.out]; exact box_bx w 3 u v s _ n
  have hB1 : Hid (Below w.heap.size w w1) := by rw [hw1.out]; exact (Below.refl _ _).alloc (Nat.le_refl _) _
  have hF1 : Hid (Fr (fun j => j = gr ∨ j = gt) w w1) := fr_below hB1.out
  have hR1 : Hid (Rr R w1 gr bs p) := rr_below h.r hB1.out
  have hT1 : Hid (Rr T w1 gt bs p) := rr_below h.t hB1.out
  have hap : Hid (∀ j, R j → ¬ T j) := h.ap
  have hrg : Hid (R gr ∧ T gt) := h.rg
  have hlt : Hid (gr < w.heap.size ∧ gt < w.heap.size) := ⟨h.r.lt, h.t.lt⟩
  have hEH : Hid (∀ W, Fr (fun j => j = gr ∨ j = gt) w W → Errs W al) := hE
  have hby : Hid (∀ b ∈ bs, b < 256) := h.r.byt
  have hpl : Hid (p ≤ bs.length) := h.r.le
  have hrc : Hid (∀ c, rcx bs p = .error c → c ≤ 12) := fun c hc => rcx_errs hc
  clear h hE
  go_enter Tryd.func13, Tryd.ntmps13
  go_wp2_with fail
  rw [← hw1.out]
  refine (rcomplex_c R gr p bs al w1 hR1.out (e5_of (hEH.out w1 hF1.out))).mono ?_
  rintro e w2 ⟨rfl, h1, h2⟩
  have hR2 : Hid (Rr R w2 gr bs (p + Pk.ud (rcx bs p))) := h1
  have hF2 : Hid (Fr (fun j => j = gr ∨ j = gt) w w2) := hF1.out.then (h2.mono fun _ _ hh => .inl hh)
  have hT2 : Hid (Rr T w2 gt bs p) := hT1.out.under h2 fun j _ hj ht => hap.out j (by have h7 : j = gr := hj; rw [h7]; exact hrg.out.1) ht
  clear h1 h2
  go_wp2_with fail
  refine (tcomplex_c T gt p bs w2 hT2.out).mono ?_
  rintro e w3 ⟨rfl, h3, h4⟩
  have hT3 : Hid (Rr T w3 gt bs (p + Pk.ud (rcx bs p))) := h3
  have hF3 : Hid (Fr (fun j => j = gr ∨ j = gt) w w3) := hF2.out.then (h4.mono fun _ _ hh => .inr hh)
  have hR3 : Hid (Rr R w3 gr bs (p + Pk.ud (rcx bs p))) := hR2.out.under h4 fun j _ hj hr => hap.out j hr (by have h7 : j = gt := hj; rw [h7]; exact hrg.out.2)
  clear h3 h4
  obtain ⟨ca, cb, hab, hca, hcb, _⟩ := cx_val hby.out p
  rw [hab]
  go_wp2_with fail
  refine (lsame_t ca cb ca cb w3 hca hcb hca hcb rfl rfl).mono ?_
  rintro e w' ⟨rfl, h7⟩
  obtain rfl : w3 = w' := h7.symm
  go_wp2_with fail
  refine (num_ue al (rcx bs p) hrc.out w3 (hEH.out w3 hF3.out)).mono ?_
  rintro e w4 ⟨rfl, hb4⟩
  have hb4H : Hid (Below w3.heap.size w3 w4) := hb4
  clear hb4
  go_wp2
  go_ret
  exact ⟨by simp, ⟨_, rr_below hR3.out hb4H.out, rr_below hT3.out hb4H.out, hap.out⟩, hF3.out.then (fr_below hb4H.out)⟩
set_option maxRecDepth 100000 in
set_option maxHeartbeats 4000000 in
theorem read_4 (R T : Nat → Prop) (gr gt p : Nat) (bs : List Nat) (al : List Addr) (n : Int) (u v : Nat) (s : ByteArray) (lo : Option Addr) (ln lc : Nat) (w : World) (h : Two R T w gr gt bs p) (hE : ∀ W, Fr (fun j => j = gr ∨ j = gt) w W → Errs W al) :
    Calls Tryd.prog 13 #[.pointer (some ⟨gr, 0, none⟩), .pointer (some ⟨gt, 0, none⟩), vl 4 u v s (.slice lo ln lc) n] w fun e w' => e = .returned (.bool true) ∧ (∃ p', Two R T w' gr gt bs p') ∧ Fr (fun j => j = gr ∨ j = gt) w w' := by
  unfold vl
  obtain ⟨w1, hw1⟩ : ∃ w1, Hid (w1 = w.alloc (.cells #[.int .i64 4, .int .u64 (u : Int), .int .u64 (v : Int), .string s, .slice lo ln lc, .int .i64 n] 30)) := ⟨_, rfl⟩
  have hbx : Hid (Bx w1 w.heap.size 4 u v s (.slice lo ln lc) n) := by rw [hw1.out]; exact box_bx w 4 u v s _ n
  have hB1 : Hid (Below w.heap.size w w1) := by rw [hw1.out]; exact (Below.refl _ _).alloc (Nat.le_refl _) _
  have hF1 : Hid (Fr (fun j => j = gr ∨ j = gt) w w1) := fr_below hB1.out
  have hR1 : Hid (Rr R w1 gr bs p) := rr_below h.r hB1.out
  have hT1 : Hid (Rr T w1 gt bs p) := rr_below h.t hB1.out
  have hap : Hid (∀ j, R j → ¬ T j) := h.ap
  have hrg : Hid (R gr ∧ T gt) := h.rg
  have hlt : Hid (gr < w.heap.size ∧ gt < w.heap.size) := ⟨h.r.lt, h.t.lt⟩
  have hEH : Hid (∀ W, Fr (fun j => j = gr ∨ j = gt) w W → Errs W al) := hE
  have hby : Hid (∀ b ∈ bs, b < 256) := h.r.byt
  have hpl : Hid (p ≤ bs.length) := h.r.le
  have hrc : Hid (∀ c, rnw bs p = .error c → c ≤ 12) := fun c hc => rnw_errs hc
  clear h hE
  go_enter Tryd.func13, Tryd.ntmps13
  go_wp2_with fail
  rw [← hw1.out]
  refine (rnarrow_c R gr p bs al w1 hR1.out (e5_of (hEH.out w1 hF1.out))).mono ?_
  rintro e w2 ⟨rfl, h1, h2⟩
  have hR2 : Hid (Rr R w2 gr bs (p + Pk.ud (rnw bs p))) := h1
  have hF2 : Hid (Fr (fun j => j = gr ∨ j = gt) w w2) := hF1.out.then (h2.mono fun _ _ hh => .inl hh)
  have hT2 : Hid (Rr T w2 gt bs p) := hT1.out.under h2 fun j _ hj ht => hap.out j (by have h7 : j = gr := hj; rw [h7]; exact hrg.out.1) ht
  clear h1 h2
  go_wp2_with fail
  refine (tnarrow_c T gt p bs w2 hT2.out).mono ?_
  rintro e w3 ⟨rfl, h3, h4⟩
  have hT3 : Hid (Rr T w3 gt bs (p + Pk.ud (rnw bs p))) := h3
  have hF3 : Hid (Fr (fun j => j = gr ∨ j = gt) w w3) := hF2.out.then (h4.mono fun _ _ hh => .inr hh)
  have hR3 : Hid (Rr R w3 gr bs (p + Pk.ud (rnw bs p))) := hR2.out.under h4 fun j _ hj hr => hap.out j hr (by have h7 : j = gt := hj; rw [h7]; exact hrg.out.2)
  clear h3 h4
  obtain ⟨ca, cb, hab, hca, hcb, _⟩ := nw_val hby.out p
  rw [hab]
  go_wp2_with fail
  refine (same32_t ca cb ca cb w3 rfl rfl).mono ?_
  rintro e w' ⟨rfl, h7⟩
  obtain rfl : w3 = w' := h7.symm
  go_wp2_with fail
  refine (num_ue al (rnw bs p) hrc.out w3 (hEH.out w3 hF3.out)).mono ?_
  rintro e w4 ⟨rfl, hb4⟩
  have hb4H : Hid (Below w3.heap.size w3 w4) := hb4
  clear hb4
  go_wp2
  go_ret
  exact ⟨by simp, ⟨_, rr_below hR3.out hb4H.out, rr_below hT3.out hb4H.out, hap.out⟩, hF3.out.then (fr_below hb4H.out)⟩
set_option maxRecDepth 100000 in
set_option maxHeartbeats 4000000 in
theorem read_5 (R T : Nat → Prop) (gr gt p : Nat) (bs : List Nat) (al : List Addr) (n : Int) (u v : Nat) (s : ByteArray) (lo : Option Addr) (ln lc : Nat) (w : World) (h : Two R T w gr gt bs p) (hE : ∀ W, Fr (fun j => j = gr ∨ j = gt) w W → Errs W al) (hg : ¬ gr < 5) (hn : n ≤ 9223372036854775807) :
    Calls Tryd.prog 13 #[.pointer (some ⟨gr, 0, none⟩), .pointer (some ⟨gt, 0, none⟩), vl 5 u v s (.slice lo ln lc) n] w fun e w' => e = .returned (.bool true) ∧ (∃ p', Two R T w' gr gt bs p') ∧ Fr (fun j => j = gr ∨ j = gt) w w' := by
  unfold vl
  obtain ⟨w1, hw1⟩ : ∃ w1, Hid (w1 = w.alloc (.cells #[.int .i64 5, .int .u64 (u : Int), .int .u64 (v : Int), .string s, .slice lo ln lc, .int .i64 n] 30)) := ⟨_, rfl⟩
  have hbx : Hid (Bx w1 w.heap.size 5 u v s (.slice lo ln lc) n) := by rw [hw1.out]; exact box_bx w 5 u v s _ n
  have hB1 : Hid (Below w.heap.size w w1) := by rw [hw1.out]; exact (Below.refl _ _).alloc (Nat.le_refl _) _
  have hF1 : Hid (Fr (fun j => j = gr ∨ j = gt) w w1) := fr_below hB1.out
  have hR1 : Hid (Rr R w1 gr bs p) := rr_below h.r hB1.out
  have hT1 : Hid (Rr T w1 gt bs p) := rr_below h.t hB1.out
  have hap : Hid (∀ j, R j → ¬ T j) := h.ap
  have hrg : Hid (R gr ∧ T gt) := h.rg
  have hlt : Hid (gr < w.heap.size ∧ gt < w.heap.size) := ⟨h.r.lt, h.t.lt⟩
  have hEH : Hid (∀ W, Fr (fun j => j = gr ∨ j = gt) w W → Errs W al) := hE
  have hby : Hid (∀ b ∈ bs, b < 256) := h.r.byt
  have hpl : Hid (p ≤ bs.length) := h.r.le
  have hrc : Hid (∀ c, rtx n bs p = .error c → c ≤ 12) := fun c hc => rtx_errs hc
  clear h hE
  go_enter Tryd.func13, Tryd.ntmps13
  have c50 := hbx.out.c5
  go_wp2_with fail
  rw [← hw1.out]
  refine (rtext_c R gr p n bs al w1 hR1.out (e5_of (hEH.out w1 hF1.out)) hg hn).mono ?_
  rintro e w2 ⟨rfl, h1, h2⟩
  have hR2 : Hid (Rr R w2 gr bs (p + Pk.ud (rtx n bs p))) := h1
  have hF2 : Hid (Fr (fun j => j = gr ∨ j = gt) w w2) := hF1.out.then (h2.mono fun _ _ hh => .inl hh)
  have hT2 : Hid (Rr T w2 gt bs p) := hT1.out.under h2 fun j _ hj ht => hap.out j (by have h7 : j = gr := hj; rw [h7]; exact hrg.out.1) ht
  have c51 := (hbx.out.under h2 (fun hh => by have h8 := hlt.out.1; have hh2 : w.heap.size = gr := hh; omega)).c5
  clear h1 h2 c50
  go_wp2_with fail
  refine (ttext_c T gt p n bs w2 hT2.out hn).mono ?_
  rintro e w3 ⟨rfl, h3, h4⟩
  have hT3 : Hid (Rr T w3 gt bs (p + Pk.ud (rtx n bs p))) := h3
  have hF3 : Hid (Fr (fun j => j = gr ∨ j = gt) w w3) := hF2.out.then (h4.mono fun _ _ hh => .inr hh)
  have hR3 : Hid (Rr R w3 gr bs (p + Pk.ud (rtx n bs p))) := hR2.out.under h4 fun j _ hj hr => hap.out j hr (by have h7 : j = gt := hj; rw [h7]; exact hrg.out.2)
  clear h3 h4 c51
  generalize mkS (lx (rtx n bs p)) = X
  go_wp2_with fail
  refine (num_ue al (rtx n bs p) hrc.out w3 (hEH.out w3 hF3.out)).mono ?_
  rintro e w4 ⟨rfl, hb4⟩
  have hb4H : Hid (Below w3.heap.size w3 w4) := hb4
  clear hb4
  go_wp2
  go_ret
  exact ⟨by simp, ⟨_, rr_below hR3.out hb4H.out, rr_below hT3.out hb4H.out, hap.out⟩, hF3.out.then (fr_below hb4H.out)⟩
set_option maxRecDepth 100000 in
set_option maxHeartbeats 4000000 in
theorem read_6 (R T : Nat → Prop) (gr gt p : Nat) (bs : List Nat) (al : List Addr) (n : Int) (u v : Nat) (s : ByteArray) (lo : Option Addr) (ln lc : Nat) (w : World) (h : Two R T w gr gt bs p) (hE : ∀ W, Fr (fun j => j = gr ∨ j = gt) w W → Errs W al) (hg : ¬ gr < 5) :
    Calls Tryd.prog 13 #[.pointer (some ⟨gr, 0, none⟩), .pointer (some ⟨gt, 0, none⟩), vl 6 u v s (.slice lo ln lc) n] w fun e w' => e = .returned (.bool true) ∧ (∃ p', Two R T w' gr gt bs p') ∧ Fr (fun j => j = gr ∨ j = gt) w w' := by
  unfold vl
  obtain ⟨w1, hw1⟩ : ∃ w1, Hid (w1 = w.alloc (.cells #[.int .i64 6, .int .u64 (u : Int), .int .u64 (v : Int), .string s, .slice lo ln lc, .int .i64 n] 30)) := ⟨_, rfl⟩
  have hbx : Hid (Bx w1 w.heap.size 6 u v s (.slice lo ln lc) n) := by rw [hw1.out]; exact box_bx w 6 u v s _ n
  have hB1 : Hid (Below w.heap.size w w1) := by rw [hw1.out]; exact (Below.refl _ _).alloc (Nat.le_refl _) _
  have hF1 : Hid (Fr (fun j => j = gr ∨ j = gt) w w1) := fr_below hB1.out
  have hR1 : Hid (Rr R w1 gr bs p) := rr_below h.r hB1.out
  have hT1 : Hid (Rr T w1 gt bs p) := rr_below h.t hB1.out
  have hap : Hid (∀ j, R j → ¬ T j) := h.ap
  have hrg : Hid (R gr ∧ T gt) := h.rg
  have hlt : Hid (gr < w.heap.size ∧ gt < w.heap.size) := ⟨h.r.lt, h.t.lt⟩
  have hEH : Hid (∀ W, Fr (fun j => j = gr ∨ j = gt) w W → Errs W al) := hE
  have hby : Hid (∀ b ∈ bs, b < 256) := h.r.byt
  have hpl : Hid (p ≤ bs.length) := h.r.le
  have hrc : Hid (∀ c, rli (rcx bs) bs p = .error c → c ≤ 12) := fun c hc => rli_errs (fun _ _ h7 => rcx_errs h7) hc
  clear h hE
  go_enter Tryd.func13, Tryd.ntmps13
  go_wp2_with fail
  rw [← hw1.out]
  refine (rlist_c R gr p bs al w1 hR1.out (e5_of (hEH.out w1 hF1.out)) hg).mono ?_
  rintro e w2 ⟨va, rfl, hna, h1, h2⟩
  have hR2 : Hid (Rr R w2 gr bs (p + Pk.ud (rli (rcx bs) bs p))) := h1
  have hF2 : Hid (Fr (fun j => j = gr ∨ j = gt) w w2) := hF1.out.then (h2.mono fun _ _ hh => .inl hh)
  have hT2 : Hid (Rr T w2 gt bs p) := hT1.out.under h2 fun j _ hj ht => hap.out j (by have h7 : j = gr := hj; rw [h7]; exact hrg.out.1) ht
  have hNa : Hid (NewU 54 w1 w2 va (ccs (lx (rli (rcx bs) bs p)))) := hna
  clear h1 h2 hna
  go_wp2_with fail
  refine (tlist_c T gt p bs w2 hT2.out).mono ?_
  rintro e w3 ⟨vb, rfl, hnb, h3, h4⟩
  have hT3 : Hid (Rr T w3 gt bs (p + Pk.ud (rli (rcx bs) bs p))) := h3
  have hF3 : Hid (Fr (fun j => j = gr ∨ j = gt) w w3) := hF2.out.then (h4.mono fun _ _ hh => .inr hh)
  have hR3 : Hid (Rr R w3 gr bs (p + Pk.ud (rli (rcx bs) bs p))) := hR2.out.under h4 fun j _ hj hr => hap.out j hr (by have h7 : j = gt := hj; rw [h7]; exact hrg.out.2)
  have hSa : Hid (SrcL (fun _ => False) w3 va (ccs (lx (rli (rcx bs) bs p)))) := ownU_src0 (ownU_fr0 hNa.out.own h4 fun b hb hh => by have h7 : b = gt := hh; have h8 := hNa.out.new b hb; have h9 := hB1.out.size; have h10 := hlt.out.2; omega)
  have hSb : Hid (SrcL (fun _ => False) w3 vb (ccs (lx (rli (rcx bs) bs p)))) := hnb.srcL fun _ hh => hh.elim
  clear h3 h4 hnb
  have hcl := cl_val hby.out hpl.out
  have hclH : Hid ((lx (rli (rcx bs) bs p)).length ≤ 1048576 ∧ ∀ z ∈ lx (rli (rcx bs) bs p), z.1 < 18446744073709551616 ∧ z.2 < 18446744073709551616) := hcl
  clear hcl
  go_wp2_with fail
  refine (lsameList_t (fun _ => False) (fun _ => False) (lx (rli (rcx bs) bs p)) (lx (rli (rcx bs) bs p)) va vb w3 hSa.out hSb.out hclH.out.1 rfl (fun _ _ => ⟨rfl, rfl⟩) hclH.out.2 hclH.out.2).mono ?_
  rintro e w5 ⟨rfl, hq5⟩
  have hF5 : Hid (Fr (fun j => j = gr ∨ j = gt) w w5) := hF3.out.then (hq5.fr _)
  have hR5 : Hid (Rr R w5 gr bs (p + Pk.ud (rli (rcx bs) bs p))) := hR3.out.qt hq5
  have hT5 : Hid (Rr T w5 gt bs (p + Pk.ud (rli (rcx bs) bs p))) := hT3.out.qt hq5
  clear hq5
  go_wp2_with fail
  refine (num_ue al (rli (rcx bs) bs p) hrc.out w5 (hEH.out w5 hF5.out)).mono ?_
  rintro e w4 ⟨rfl, hb4⟩
  have hb4H : Hid (Below w5.heap.size w5 w4) := hb4
  clear hb4
  go_wp2
  go_ret
  exact ⟨by simp, ⟨_, rr_below hR5.out hb4H.out, rr_below hT5.out hb4H.out, hap.out⟩, hF5.out.then (fr_below hb4H.out)⟩
set_option maxRecDepth 100000 in
set_option maxHeartbeats 4000000 in
theorem read_7 (R T : Nat → Prop) (gr gt p : Nat) (bs : List Nat) (al : List Addr) (n : Int) (u v : Nat) (s : ByteArray) (lo : Option Addr) (ln lc : Nat) (w : World) (h : Two R T w gr gt bs p) (hE : ∀ W, Fr (fun j => j = gr ∨ j = gt) w W → Errs W al) (hg : ¬ gr < 5) :
    Calls Tryd.prog 13 #[.pointer (some ⟨gr, 0, none⟩), .pointer (some ⟨gt, 0, none⟩), vl 7 u v s (.slice lo ln lc) n] w fun e w' => e = .returned (.bool true) ∧ (∃ p', Two R T w' gr gt bs p') ∧ Fr (fun j => j = gr ∨ j = gt) w w' := by
  unfold vl
  obtain ⟨w1, hw1⟩ : ∃ w1, Hid (w1 = w.alloc (.cells #[.int .i64 7, .int .u64 (u : Int), .int .u64 (v : Int), .string s, .slice lo ln lc, .int .i64 n] 30)) := ⟨_, rfl⟩
  have hbx : Hid (Bx w1 w.heap.size 7 u v s (.slice lo ln lc) n) := by rw [hw1.out]; exact box_bx w 7 u v s _ n
  have hB1 : Hid (Below w.heap.size w w1) := by rw [hw1.out]; exact (Below.refl _ _).alloc (Nat.le_refl _) _
  have hF1 : Hid (Fr (fun j => j = gr ∨ j = gt) w w1) := fr_below hB1.out
  have hR1 : Hid (Rr R w1 gr bs p) := rr_below h.r hB1.out
  have hT1 : Hid (Rr T w1 gt bs p) := rr_below h.t hB1.out
  have hap : Hid (∀ j, R j → ¬ T j) := h.ap
  have hrg : Hid (R gr ∧ T gt) := h.rg
  have hlt : Hid (gr < w.heap.size ∧ gt < w.heap.size) := ⟨h.r.lt, h.t.lt⟩
  have hEH : Hid (∀ W, Fr (fun j => j = gr ∨ j = gt) w W → Errs W al) := hE
  have hby : Hid (∀ b ∈ bs, b < 256) := h.r.byt
  have hpl : Hid (p ≤ bs.length) := h.r.le
  have hrc : Hid (∀ c, rli (rfl_ bs) bs p = .error c → c ≤ 12) := fun c hc => rli_errs (fun _ _ h7 => rfl_errs h7) hc
  clear h hE
  go_enter Tryd.func13, Tryd.ntmps13
  go_wp2_with fail
  rw [← hw1.out]
  refine (rfloats_c R gr p bs al w1 hR1.out (e5_of (hEH.out w1 hF1.out)) hg).mono ?_
  rintro e w2 ⟨va, rfl, hna, h1, h2⟩
  have hR2 : Hid (Rr R w2 gr bs (p + Pk.ud (rli (rfl_ bs) bs p))) := h1
  have hF2 : Hid (Fr (fun j => j = gr ∨ j = gt) w w2) := hF1.out.then (h2.mono fun _ _ hh => .inl hh)
  have hT2 : Hid (Rr T w2 gt bs p) := hT1.out.under h2 fun j _ hj ht => hap.out j (by have h7 : j = gr := hj; rw [h7]; exact hrg.out.1) ht
  have hNa : Hid (NewU 61 w1 w2 va (fcs (lx (rli (rfl_ bs) bs p)))) := hna
  clear h1 h2 hna
  go_wp2_with fail
  refine (tfloats_c T gt p bs w2 hT2.out).mono ?_
  rintro e w3 ⟨vb, rfl, hnb, h3, h4⟩
  have hT3 : Hid (Rr T w3 gt bs (p + Pk.ud (rli (rfl_ bs) bs p))) := h3
  have hF3 : Hid (Fr (fun j => j = gr ∨ j = gt) w w3) := hF2.out.then (h4.mono fun _ _ hh => .inr hh)
  have hR3 : Hid (Rr R w3 gr bs (p + Pk.ud (rli (rfl_ bs) bs p))) := hR2.out.under h4 fun j _ hj hr => hap.out j hr (by have h7 : j = gt := hj; rw [h7]; exact hrg.out.2)
  have hSa : Hid (SrcL (fun _ => False) w3 va (fcs (lx (rli (rfl_ bs) bs p)))) := ownU_src0 (ownU_fr0 hNa.out.own h4 fun b hb hh => by have h7 : b = gt := hh; have h8 := hNa.out.new b hb; have h9 := hB1.out.size; have h10 := hlt.out.2; omega)
  have hSb : Hid (SrcL (fun _ => False) w3 vb (fcs (lx (rli (rfl_ bs) bs p)))) := hnb.srcL fun _ hh => hh.elim
  clear h3 h4 hnb
  have hcl := fl_val hby.out hpl.out
  have hclH : Hid ((lx (rli (rfl_ bs) bs p)).length ≤ 1048576 ∧ ∀ z ∈ lx (rli (rfl_ bs) bs p), z < 18446744073709551616) := hcl
  clear hcl
  go_wp2_with fail
  refine (rsameList_t (fun _ => False) (fun _ => False) (lx (rli (rfl_ bs) bs p)) (lx (rli (rfl_ bs) bs p)) va vb w3 hSa.out hSb.out hclH.out.1 rfl (fun _ _ => rfl) hclH.out.2 hclH.out.2).mono ?_
  rintro e w5 ⟨rfl, hq5⟩
  have hF5 : Hid (Fr (fun j => j = gr ∨ j = gt) w w5) := hF3.out.then (hq5.fr _)
  have hR5 : Hid (Rr R w5 gr bs (p + Pk.ud (rli (rfl_ bs) bs p))) := hR3.out.qt hq5
  have hT5 : Hid (Rr T w5 gt bs (p + Pk.ud (rli (rfl_ bs) bs p))) := hT3.out.qt hq5
  clear hq5
  go_wp2_with fail
  refine (num_ue al (rli (rfl_ bs) bs p) hrc.out w5 (hEH.out w5 hF5.out)).mono ?_
  rintro e w4 ⟨rfl, hb4⟩
  have hb4H : Hid (Below w5.heap.size w5 w4) := hb4
  clear hb4
  go_wp2
  go_ret
  exact ⟨by simp, ⟨_, rr_below hR5.out hb4H.out, rr_below hT5.out hb4H.out, hap.out⟩, hF5.out.then (fr_below hb4H.out)⟩
set_option maxRecDepth 100000 in
set_option maxHeartbeats 4000000 in
theorem read_d (R T : Nat → Prop) (gr gt p : Nat) (bs : List Nat) (al : List Addr) (k : Int) (n : Int) (u v : Nat) (s : ByteArray) (lo : Option Addr) (ln lc : Nat) (w : World) (h : Two R T w gr gt bs p) (hE : ∀ W, Fr (fun j => j = gr ∨ j = gt) w W → Errs W al) (hk : ∀ j : Int, 0 ≤ j → j ≤ 8 → k ≠ j) :
    Calls Tryd.prog 13 #[.pointer (some ⟨gr, 0, none⟩), .pointer (some ⟨gt, 0, none⟩), vl k u v s (.slice lo ln lc) n] w fun e w' => e = .returned (.bool true) ∧ (∃ p', Two R T w' gr gt bs p') ∧ Fr (fun j => j = gr ∨ j = gt) w w' := by
  unfold vl
  obtain ⟨w1, hw1⟩ : ∃ w1, Hid (w1 = w.alloc (.cells #[.int .i64 k, .int .u64 (u : Int), .int .u64 (v : Int), .string s, .slice lo ln lc, .int .i64 n] 30)) := ⟨_, rfl⟩
  have hbx : Hid (Bx w1 w.heap.size k u v s (.slice lo ln lc) n) := by rw [hw1.out]; exact box_bx w k u v s _ n
  have hB1 : Hid (Below w.heap.size w w1) := by rw [hw1.out]; exact (Below.refl _ _).alloc (Nat.le_refl _) _
  have hF1 : Hid (Fr (fun j => j = gr ∨ j = gt) w w1) := fr_below hB1.out
  have hR1 : Hid (Rr R w1 gr bs p) := rr_below h.r hB1.out
  have hT1 : Hid (Rr T w1 gt bs p) := rr_below h.t hB1.out
  have hap : Hid (∀ j, R j → ¬ T j) := h.ap
  have hrg : Hid (R gr ∧ T gt) := h.rg
  have hlt : Hid (gr < w.heap.size ∧ gt < w.heap.size) := ⟨h.r.lt, h.t.lt⟩
  have hEH : Hid (∀ W, Fr (fun j => j = gr ∨ j = gt) w W → Errs W al) := hE
  have n0 : (k == 0) = false := beq_eq_false_iff_ne.2 (hk 0 (by decide) (by decide))
  have n1 : (k == 1) = false := beq_eq_false_iff_ne.2 (hk 1 (by decide) (by decide))
  have n2 : (k == 2) = false := beq_eq_false_iff_ne.2 (hk 2 (by decide) (by decide))
  have n3 : (k == 3) = false := beq_eq_false_iff_ne.2 (hk 3 (by decide) (by decide))
  have n4 : (k == 4) = false := beq_eq_false_iff_ne.2 (hk 4 (by decide) (by decide))
  have n5 : (k == 5) = false := beq_eq_false_iff_ne.2 (hk 5 (by decide) (by decide))
  have n6 : (k == 6) = false := beq_eq_false_iff_ne.2 (hk 6 (by decide) (by decide))
  have n7 : (k == 7) = false := beq_eq_false_iff_ne.2 (hk 7 (by decide) (by decide))
  have n8 : (k == 8) = false := beq_eq_false_iff_ne.2 (hk 8 (by decide) (by decide))
  have hnum : Hid (∀ W, Errs W al → Calls Tryd.prog 16 #[dnv al p bs.length] W fun e w' => e = .returned (.int .i64 (dnn p bs.length : Nat)) ∧ Below W.heap.size W w') := fun W hW => by
    by_cases hp : p < bs.length
    · have e1 : dnv al p bs.length = ek al 3 := if_pos hp
      have e2 : dnn p bs.length = 4 := if_pos hp
      rw [e1, e2]
      exact num_err al 3 (by decide) W hW
    · have e1 : dnv al p bs.length = .nilIface := if_neg hp
      have e2 : dnn p bs.length = 0 := if_neg hp
      rw [e1, e2]
      exact (num_nil W).mono fun _ _ h => ⟨h.1, by rw [← h.2]; exact Below.refl _ _⟩
  clear hk h hE
  go_enter Tryd.func13, Tryd.ntmps13
  go_wp2_with fail
  rw [← hw1.out]
  refine (rdone_c R gr p bs al w1 hR1.out (e5_of (hEH.out w1 hF1.out))).mono ?_
  rintro e w2 ⟨rfl, hq2⟩
  have hF2 : Hid (Fr (fun j => j = gr ∨ j = gt) w w2) := hF1.out.then (hq2.fr _)
  have hR2 : Hid (Rr R w2 gr bs p) := hR1.out.qt hq2
  have hT2 : Hid (Rr T w2 gt bs p) := hT1.out.qt hq2
  clear hq2
  go_wp2_with fail
  refine (hnum.out w2 (hEH.out w2 hF2.out)).mono ?_
  rintro e w3 ⟨rfl, hb3⟩
  have hb3H : Hid (Below w2.heap.size w2 w3) := hb3
  clear hb3
  go_wp2_with fail
  refine (tdone_c T gt p bs w3 (rr_below hT2.out hb3H.out)).mono ?_
  rintro e w4 ⟨rfl, hq4⟩
  have hq4H : Hid (Qt w3 w4) := hq4
  clear hq4
  go_wp2
  go_ret
  exact ⟨by simp, ⟨_, (rr_below hR2.out hb3H.out).qt hq4H.out, (rr_below hT2.out hb3H.out).qt hq4H.out, hap.out⟩, (hF2.out.then (fr_below hb3H.out)).then (hq4H.out.fr _)⟩
theorem read_c (R T : Nat → Prop) (gr gt p : Nat) (bs : List Nat) (al : List Addr) (k n : Int) (u v : Nat) (s : ByteArray) (lo : Option Addr) (ln lc : Nat) (w : World) (h : Two R T w gr gt bs p) (hE : ∀ W, Fr (fun j => j = gr ∨ j = gt) w W → Errs W al) (hg : ¬ gr < 5) (hn : n ≤ 9223372036854775807) :
    Calls Tryd.prog 13 #[.pointer (some ⟨gr, 0, none⟩), .pointer (some ⟨gt, 0, none⟩), vl k u v s (.slice lo ln lc) n] w fun e w' => e = .returned (.bool true) ∧ (∃ p', Two R T w' gr gt bs p') ∧ Fr (fun j => j = gr ∨ j = gt) w w' := by
  rcases kind_cases k with h0 | rfl | rfl | rfl | rfl | rfl | rfl | rfl | hk
  · rcases h0 with rfl | rfl
    · exact read_0 R T gr gt p bs al n u v s lo ln lc w h hE
    · exact read_8 R T gr gt p bs al n u v s lo ln lc w h hE hg hn
  · exact read_1 R T gr gt p bs al n u v s lo ln lc w h hE
  · exact read_2 R T gr gt p bs al n u v s lo ln lc w h hE
  · exact read_3 R T gr gt p bs al n u v s lo ln lc w h hE
  · exact read_4 R T gr gt p bs al n u v s lo ln lc w h hE
  · exact read_5 R T gr gt p bs al n u v s lo ln lc w h hE hg hn
  · exact read_6 R T gr gt p bs al n u v s lo ln lc w h hE hg
  · exact read_7 R T gr gt p bs al n u v s lo ln lc w h hE hg
  · exact read_d R T gr gt p bs al k n u v s lo ln lc w h hE hk
end Go.Proofs.YtjckgcjcpmnhhaaDoor
