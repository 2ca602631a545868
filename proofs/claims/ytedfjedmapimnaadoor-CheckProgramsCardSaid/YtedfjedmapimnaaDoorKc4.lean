/-
  Package check: below, clashes, good.
-/
import Derived.Test.YtedfjedmapimnaaDoorKc3
namespace Go.Proofs.YtedfjedmapimnaaDoor
open Flo Go.RowKit
/-- a touch at a block -/
structure Bto (w : World) (g : Nat) (v1 v2 : Value) (b : Bool) : Prop where
  c0 : w.cell? ⟨g, 0, none⟩ = some v1
  c1 : w.cell? ⟨g, 1, none⟩ = some v2
  c2 : w.cell? ⟨g, 2, none⟩ = some (.bool b)
theorem Bto.below {w w' : World} {g : Nat} {v1 v2 : Value} {b : Bool} (h : Bto w g v1 v2 b) (hb : Below w.heap.size w w') : Bto w' g v1 v2 b := ⟨(hb.cell (p := ⟨g, 0, none⟩) (cell_lt h.c0)).trans h.c0, (hb.cell (p := ⟨g, 1, none⟩) (cell_lt h.c1)).trans h.c1, (hb.cell (p := ⟨g, 2, none⟩) (cell_lt h.c2)).trans h.c2⟩
set_option maxHeartbeats 1000000 in
theorem kclos_c (r : Kc.Rw) (h : Rok r) (g : Nat) (cells : Int) (w : World) (hc : w.cell? ⟨g, 0, none⟩ = some (.int .i64 cells)) :
    Calls Tryd.prog 41 #[rv r, .pointer (some ⟨g, 0, none⟩)] w fun e w' => e = .returned (.bool (Kc.bey cells r)) ∧ Below w.heap.size w w' := by
  obtain ⟨G, hG⟩ : ∃ g, Hid (w.heap.size = g) := ⟨_, (rfl : _ = _)⟩
  obtain ⟨wa, ewa⟩ : ∃ wa, Hid (w.alloc (.cells #[.int .i64 r.f, .int .i64 r.j, .int .i64 r.c] 72) = wa) := ⟨_, (rfl : _ = _)⟩
  have Ba : Hid (Below w.heap.size w wa) := by rw [← ewa.out]; exact (Below.refl _ _).alloc (Nat.le_refl _) _
  have X1 : Hid (Brw wa G r.f r.j r.c) := by rw [← ewa.out, ← hG.out]; exact Brw.new w r.f r.j r.c
  have hca : wa.cell? ⟨g, 0, none⟩ = some (.int .i64 cells) := (Ba.out.cell (cell_lt hc)).trans hc
  have hcH : Hid (wa.cell? ⟨g, 0, none⟩ = some (.int .i64 cells)) := hca
  have c1 : Hid (∀ W, Below wa.heap.size wa W → Calls Tryd.prog 42 #[rv r] W fun e w' => e = .returned (.int .i64 (r.last : Nat)) ∧ Below wa.heap.size wa w') := fun W hW => (klast_c r h W).mono fun e w' ⟨e1, e2⟩ => ⟨e1, hW.trans (e2.mono hW.size)⟩
  have hb : Hid (Kc.bey cells r = decide (cells ≤ (r.last : Int))) := (rfl : _ = _)
  obtain ⟨b, hbb⟩ : ∃ b, Hid (Kc.bey cells r = b) := ⟨_, (rfl : _ = _)⟩
  rw [hbb.out] at hb ⊢
  have hq : decide (cells ≤ (r.last : Int)) = b := hb.out.symm
  clear h hb hbb hc
  generalize r.last = L at c1 hq
  unfold rv rva at *
  go_enter Tryd.func41, Tryd.ntmps41
  go_upto_region 1 with fail
  rw [ewa.out, hG.out]
  obtain ⟨x0, x1, x2⟩ := X1.out
  go_region_held3 (fun Z => Z.cell? ⟨G, 0, none⟩ = some (.int .i64 (r.f : Int)) ∧ Z.cell? ⟨G, 1, none⟩ = some (.int .i64 (r.j : Int)) ∧ Z.cell? ⟨G, 2, none⟩ = some (.int .i64 (r.c : Int)) ∧ Z.cell? ⟨g, 0, none⟩ = some (.int .i64 cells)) (go_keep) ((first
    | (go_at_call 42; refine (c1.out _ ?_).mono ?_; (first | assumption | exact Below.refl _ _ | exact (Below.refl _ _).drew | exact Below.drew (by assumption)); rintro e w5 ⟨rfl, B5⟩; obtain ⟨x0, x1, x2⟩ := X1.out.below B5; have hca := (B5.cell (cell_lt hcH.out)).trans hcH.out)))
  all_goals (
    go_wp2
    go_ret
    exact ⟨rfl, Ba.out.trans (Below.mono (by assumption) Ba.out.size)⟩)
theorem any_at {rs : List Kc.Rw} {p : Kc.Rw → Bool} {k : Nat} {r : Kc.Rw} (h : rs[k]? = some r) (hp : p r = true) : rs.any p = true := List.any_eq_true.2 ⟨r, List.mem_of_getElem? h, hp⟩
theorem any_no {rs : List Kc.Rw} {p : Kc.Rw → Bool} (h : ∀ q r, q < rs.length → rs[q]? = some r → p r = false) : rs.any p = false := Kc.any_false.2 fun x hx => by
  obtain ⟨q, hq, e⟩ := List.mem_iff_getElem.1 hx
  exact h q x hq (by rw [List.getElem?_eq_getElem hq, e])
set_option maxHeartbeats 1000000 in
theorem kidx_c (rs : List Kc.Rw) (ao : Option Addr) (cap : Nat) (hR : ∀ r ∈ rs, Rok r) (hl : rs.length ≤ 64) (g : Nat) (cells : Int) (w : World) (hc : w.cell? ⟨g, 0, none⟩ = some (.int .i64 cells)) (hs : Rs w ao rs) :
    Calls Tryd.prog 52 #[.slice ao rs.length cap, .func (.func 41) #[] #[.pointer (some ⟨g, 0, none⟩)]] w fun e w' => (∃ I : Int, e = .returned (.int .i64 I) ∧ decide (0 ≤ I) = rs.any (Kc.bey cells)) ∧ Below w.heap.size w w' := by
  have hcH : Hid (w.cell? ⟨g, 0, none⟩ = some (.int .i64 cells)) := hc
  have hsH : Hid (Rs w ao rs) := hs
  have hRH : Hid (∀ r ∈ rs, Rok r) := hR
  obtain ⟨n, hn⟩ : ∃ n, Hid (rs.length = n) := ⟨_, (rfl : _ = _)⟩
  rw [hn.out] at hl ⊢
  clear hc hs hR
  go_enter Tryd.func52, Tryd.ntmps52
  go_wp2
  go_loopw [8] (fun i wr => ∃ k : Nat, k ≤ n ∧ i = .int .i64 k ∧ Hid (Below w.heap.size w wr) ∧ Hid (∀ q r, q < k → rs[q]? = some r → Kc.bey cells r = false)) (fun i _ => n - (intOf i).toNat)
  case atStart => exact ⟨0, Nat.zero_le _, rfl, Below.refl _ _, fun q r h => absurd h (by omega)⟩
  case round =>
    obtain ⟨k, hk, rfl, Bk, hbef⟩ := hrel
    by_cases hlt : k < n
    · have hlt' : (k : Int) < (n : Int) := by omega
      obtain ⟨r, hr⟩ : ∃ r, rs[k]? = some r := ⟨_, List.getElem?_eq_getElem (by rw [hn.out]; exact hlt)⟩
      obtain ⟨q, o, rfl, hat⟩ := hsH.out k r hr
      obtain ⟨y0, y1, y2⟩ := hat.below Bk.out
      have hcl : Hid (Calls Tryd.prog 41 #[rv r, .pointer (some ⟨g, 0, none⟩)] wr fun e w' => e = .returned (.bool (Kc.bey cells r)) ∧ Below wr.heap.size wr w') := kclos_c r (hRH.out r (List.mem_of_getElem? hr)) g cells wr ((Bk.out.cell (cell_lt hcH.out)).trans hcH.out)
      obtain ⟨b, hb⟩ : ∃ b, Hid (Kc.bey cells r = b) := ⟨_, (rfl : _ = _)⟩
      rw [hb.out] at hcl
      have hrH : Hid (rs[k]? = some r) := hr
      unfold rv rva at hcl
      clear hat hr
      go_wp2_with fail
      refine hcl.out.mono ?_
      rintro e w1 ⟨rfl, B1⟩
      have Bn : Hid (Below w.heap.size w w1) := Bk.out.trans (B1.mono Bk.out.size)
      clear y0 y1 y2 B1 hcl
      cases b with
      | true =>
        have hA : Hid (rs.any (Kc.bey cells) = true) := any_at hrH.out hb.out
        have hd : Hid (decide ((0 : Int) ≤ (k : Int)) = true) := decide_eq_true (by omega)
        go_wp2
        go_ret
        exact ⟨⟨_, rfl, by rw [hA.out, hd.out]⟩, Bn.out⟩
      | false =>
        have hbef2 : Hid (∀ q r, q < k + 1 → rs[q]? = some r → Kc.bey cells r = false) := fun q r h1 h2 => by
          by_cases e : q = k
          · subst e; rw [hrH.out] at h2; cases h2; exact hb.out
          · exact hbef.out q r (by omega) h2
        go_wp2
        go_roundw
        case rel => exact ⟨k + 1, by omega, by go_num, Bn, hbef2⟩
        case measure => simp [intOf]; omega
    · have hlt' : decide ((k : Int) < (n : Int)) = false := decide_eq_false (by omega)
      have hlt2 : ¬ k < n := hlt
      have hA : Hid (rs.any (Kc.bey cells) = false) := any_no fun q r h1 h2 => hbef.out q r (by have := hn.out; omega) h2
      go_wp2
      go_ret
      exact ⟨⟨_, rfl, by rw [hA.out]; rfl⟩, Bk.out⟩
theorem kcon_c (rs : List Kc.Rw) (v : Value) (hR : ∀ r ∈ rs, Rok r) (hl : rs.length ≤ 64) (g : Nat) (cells : Int) (w : World) (hc : w.cell? ⟨g, 0, none⟩ = some (.int .i64 cells)) (hs : RdR w v rs) :
    Calls Tryd.prog 43 #[v, .func (.func 41) #[] #[.pointer (some ⟨g, 0, none⟩)]] w fun e w' => e = .returned (.bool (rs.any (Kc.bey cells))) ∧ Below w.heap.size w w' := by
  obtain ⟨ao, cap, rfl, hs⟩ := hs
  have hI : Hid (Calls Tryd.prog 52 #[.slice ao rs.length cap, .func (.func 41) #[] #[.pointer (some ⟨g, 0, none⟩)]] w fun e w' => (∃ I : Int, e = .returned (.int .i64 I) ∧ decide (0 ≤ I) = rs.any (Kc.bey cells)) ∧ Below w.heap.size w w') := kidx_c rs ao cap hR hl g cells w hc hs
  obtain ⟨b, hb⟩ : ∃ b, Hid (rs.any (Kc.bey cells) = b) := ⟨_, (rfl : _ = _)⟩
  rw [hb.out] at hI ⊢
  clear hs hR hc
  go_enter Tryd.func43, Tryd.ntmps43
  go_wp2_with fail
  refine hI.out.mono ?_
  rintro e w1 ⟨⟨I, rfl, hd⟩, B1⟩
  have BH : Hid (Below w.heap.size w w1) := B1
  clear B1
  go_wp2
  go_ret
  exact ⟨rfl, BH.out⟩
theorem len_tou {o d s j c n : Nat} (h : Kc.Fo o d s j c n) : (Kc.tou o d s j c n).rd.length ≤ 64 ∧ (Kc.tou o d s j c n).wr.length ≤ 64 := by
  have five : o = 5 → (Kc.tou o d s j c n).rd.length ≤ 64 ∧ (Kc.tou o d s j c n).wr.length ≤ 64 := by
    rintro rfl
    obtain ⟨h1, h2, h3⟩ := h.n5 rfl
    have e : Kc.tou 5 d s j c n = ⟨Kc.flr d j c n, Kc.flr d j c n, false⟩ := rfl
    rw [e]
    have : (Kc.flr d j c n).length = n := by simp [Kc.flr]
    simp only [this]
    omega
  rcases Kc.ops h.o1 h.o2 with rfl | rfl | (rfl | rfl) | rfl | rfl | rfl | (rfl | rfl | rfl | rfl)
  all_goals first | exact five rfl | exact ⟨by simp [Kc.tou], by simp [Kc.tou]⟩
set_option maxHeartbeats 1000000 in
theorem kbelow_c (t : Kc.To) (v1 v2 : Value) (cells : Int) (w : World) (h1 : RdR w v1 t.rd) (h2 : RdR w v2 t.wr) (hr : ∀ r ∈ t.rd, Rok r) (hv : ∀ r ∈ t.wr, Rok r) (hl1 : t.rd.length ≤ 64) (hl2 : t.wr.length ≤ 64) :
    Calls Tryd.prog 32 #[.agg #[v1, v2, .bool t.wh], .int .i64 cells] w fun e w' => e = .returned (.bool (t.below cells)) ∧ Below w.heap.size w w' := by
  obtain ⟨g, hg⟩ : ∃ g, Hid (w.heap.size = g) := ⟨_, (rfl : _ = _)⟩
  obtain ⟨wa, ewa⟩ : ∃ wa, Hid ((w.alloc (.cells #[v1, v2, .bool t.wh] 55)).alloc (.cells #[.int .i64 cells] 3) = wa) := ⟨_, (rfl : _ = _)⟩
  have Ba : Hid (Below w.heap.size w wa) := by rw [← ewa.out]; exact ((Below.refl _ _).alloc (Nat.le_refl _) _).alloc (by simp) _
  have X1 : Hid (Bto wa g v1 v2 t.wh) := by rw [← ewa.out, ← hg.out]; constructor <;> simp [go_sem]
  have C1 : Hid (wa.cell? ⟨g + 1, 0, none⟩ = some (.int .i64 cells)) := by show _ = _; rw [← ewa.out, ← hg.out]; simp [go_sem]
  have hc1 : Hid (∀ W, Below wa.heap.size wa W → Calls Tryd.prog 43 #[v1, .func (.func 41) #[] #[.pointer (some ⟨g + 1, 0, none⟩)]] W fun e w' => e = .returned (.bool (t.rd.any (Kc.bey cells))) ∧ Below W.heap.size W w') := fun W hW => kcon_c _ _ hr hl1 _ _ W ((hW.cell (cell_lt C1.out)).trans C1.out) (h1.below (Ba.out.trans (hW.mono Ba.out.size)))
  have hc2 : Hid (∀ W, Below wa.heap.size wa W → Calls Tryd.prog 43 #[v2, .func (.func 41) #[] #[.pointer (some ⟨g + 1, 0, none⟩)]] W fun e w' => e = .returned (.bool (t.wr.any (Kc.bey cells))) ∧ Below W.heap.size W w') := fun W hW => kcon_c _ _ hv hl2 _ _ W ((hW.cell (cell_lt C1.out)).trans C1.out) (h2.below (Ba.out.trans (hW.mono Ba.out.size)))
  unfold Kc.To.below
  generalize t.rd.any (Kc.bey cells) = p1 at *
  generalize t.wr.any (Kc.bey cells) = p2 at *
  generalize t.wh = tw at *
  clear h1 h2 hr hv
  go_enter Tryd.func32, Tryd.ntmps32
  go_upto_region 1 with fail
  rw [ewa.out, hg.out]
  obtain ⟨x0, x1, x2⟩ := X1.out
  go_wp2_with fail
  refine (hc1.out wa (Below.refl _ _)).mono ?_
  rintro e w1 ⟨rfl, B1⟩
  have B1H : Hid (Below wa.heap.size wa w1) := B1
  have Z1 := X1.out.below B1
  clear x0 x1 x2 B1 hc1
  obtain ⟨x0, x1, x2⟩ := Z1
  cases p1 with
  | true =>
    go_wp2
    go_ret
    exact ⟨rfl, Ba.out.trans (B1H.out.mono Ba.out.size)⟩
  | false =>
    go_wp2_with fail
    refine (hc2.out w1 B1H.out).mono ?_
    rintro e w2 ⟨rfl, B2⟩
    have B2H : Hid (Below w.heap.size w w2) := (Ba.out.trans (B1H.out.mono Ba.out.size)).trans (B2.mono (Nat.le_trans Ba.out.size B1H.out.size))
    clear B2 x0 x1 x2
    go_wp2
    go_ret
    exact ⟨rfl, B2H.out⟩
set_option maxHeartbeats 2000000 in
theorem kclash_c (t : Kc.To) (v1 v2 : Value) (w : World) (h1 : RdR w v1 t.rd) (h2 : RdR w v2 t.wr) (hr : ∀ r ∈ t.rd, Rok r) (hv : ∀ r ∈ t.wr, Rok r) (hl1 : t.rd.length ≤ 64) (hl2 : t.wr.length ≤ 64) :
    Calls Tryd.prog 33 #[.agg #[v1, v2, .bool t.wh]] w fun e w' => e = .returned (.bool t.clash) ∧ Below w.heap.size w w' := by
  obtain ⟨g, hg⟩ : ∃ g, Hid (w.heap.size = g) := ⟨_, (rfl : _ = _)⟩
  obtain ⟨a1, c1, rfl, hs1⟩ := h1
  obtain ⟨a2, c2, rfl, hs2⟩ := h2
  obtain ⟨n1, hn1⟩ : ∃ n, Hid (t.rd.length = n) := ⟨_, (rfl : _ = _)⟩
  obtain ⟨n2, hn2⟩ : ∃ n, Hid (t.wr.length = n) := ⟨_, (rfl : _ = _)⟩
  obtain ⟨wa, ewa⟩ : ∃ wa, Hid (w.alloc (.cells #[.slice a1 t.rd.length c1, .slice a2 t.wr.length c2, .bool t.wh] 55) = wa) := ⟨_, (rfl : _ = _)⟩
  have Ba : Hid (Below w.heap.size w wa) := by rw [← ewa.out]; exact (Below.refl _ _).alloc (Nat.le_refl _) _
  have X1 : Hid (Bto wa g (.slice a1 t.rd.length c1) (.slice a2 t.wr.length c2) t.wh) := by rw [← ewa.out, ← hg.out]; constructor <;> simp [go_sem]
  have s1 : Hid (Rs wa a1 t.rd) := hs1.below Ba.out
  have s2 : Hid (Rs wa a2 t.wr) := hs2.below Ba.out
  have hrH : Hid (∀ r ∈ t.rd, Rok r) := hr
  have hvH : Hid (∀ r ∈ t.wr, Rok r) := hv
  obtain ⟨tw, htw⟩ : ∃ b, Hid (t.wh = b) := ⟨_, (rfl : _ = _)⟩
  rw [hn1.out, hn2.out, htw.out] at X1 ewa
  rw [hn1.out, hn2.out, htw.out]
  rw [hn1.out] at hl1
  rw [hn2.out] at hl2
  obtain ⟨res, hres⟩ : ∃ b, Hid (t.clash = b) := ⟨_, (rfl : _ = _)⟩
  rw [hres.out]
  clear hs1 hs2 hr hv
  go_enter Tryd.func33, Tryd.ntmps33
  go_upto_region 1 with fail
  rw [ewa.out, hg.out]
  obtain ⟨x0, x1, x2⟩ := X1.out
  go_wp2
  clear x0 x1 x2
  go_loopw [10] (fun i wr => ∃ k : Nat, k ≤ n2 ∧ i = .int .i64 k ∧ Hid (Below wa.heap.size wa wr) ∧ Hid (∀ q v, q < k → t.wr[q]? = some v → (t.rd.any fun r => t.hit v r) = false)) (fun i _ => n2 - (intOf i).toNat)
  case atStart => exact ⟨0, Nat.zero_le _, rfl, Below.refl _ _, fun q r h => absurd h (by omega)⟩
  case round =>
    obtain ⟨k, hk, rfl, Bk, hbef⟩ := hrel
    by_cases hlt : k < n2
    · have hlt' : (k : Int) < (n2 : Int) := by omega
      obtain ⟨v, hv⟩ : ∃ v, t.wr[k]? = some v := ⟨_, List.getElem?_eq_getElem (by rw [hn2.out]; exact hlt)⟩
      obtain ⟨q, o, rfl, hat⟩ := s2.out k v hv
      obtain ⟨y0, y1, y2⟩ := hat.below Bk.out
      obtain ⟨x0, x1, x2⟩ := X1.out.below Bk.out
      obtain ⟨wb, ewb⟩ : ∃ wb, Hid (wr.alloc (.cells #[.int .i64 v.f, .int .i64 v.j, .int .i64 v.c] 72) = wb) := ⟨_, (rfl : _ = _)⟩
      obtain ⟨gv, hgv⟩ : ∃ g, Hid (wr.heap.size = g) := ⟨_, (rfl : _ = _)⟩
      have Bb : Hid (Below wa.heap.size wa wb) := by rw [← ewb.out]; exact Bk.out.alloc Bk.out.size _
      have V1 : Hid (Brw wb gv v.f v.j v.c) := by rw [← ewb.out, ← hgv.out]; exact Brw.new wr _ _ _
      go_upto_region 4 with fail
      rw [ewb.out, hgv.out]
      clear y0 y1 y2 x0 x1 x2
      obtain ⟨x0, x1, x2⟩ := X1.out.below Bb.out
      obtain ⟨y0, y1, y2⟩ := V1.out
      go_wp2
      clear x0 x1 x2 y0 y1 y2
      go_loopw [17] (fun i wr => ∃ m : Nat, m ≤ n1 ∧ i = .int .i64 m ∧ Hid (Below wb.heap.size wb wr) ∧ Hid (∀ q r, q < m → t.rd[q]? = some r → t.hit v r = false)) (fun i _ => n1 - (intOf i).toNat)
      case atStart => exact ⟨0, Nat.zero_le _, rfl, Below.refl _ _, fun q r h => absurd h (by omega)⟩
      case round =>
        obtain ⟨m, hm, rfl, Bm, hbe2⟩ := hrel
        have Bt : Hid (Below wa.heap.size wa wr) := Bb.out.trans (Bm.out.mono Bb.out.size)
        by_cases hlm : m < n1
        · have hlm' : (m : Int) < (n1 : Int) := by omega
          obtain ⟨r, hr⟩ : ∃ r, t.rd[m]? = some r := ⟨_, List.getElem?_eq_getElem (by rw [hn1.out]; exact hlm)⟩
          obtain ⟨q', o', rfl, hat'⟩ := s1.out m r hr
          obtain ⟨z0, z1, z2⟩ := hat'.below Bt.out
          obtain ⟨wc, ewc⟩ : ∃ wb, Hid (wr.alloc (.cells #[.int .i64 r.f, .int .i64 r.j, .int .i64 r.c] 72) = wb) := ⟨_, (rfl : _ = _)⟩
          obtain ⟨gr, hgr⟩ : ∃ g, Hid (wr.heap.size = g) := ⟨_, (rfl : _ = _)⟩
          have Bxc : Hid (Below wb.heap.size wb wc) := by rw [← ewc.out]; exact Bm.out.alloc Bm.out.size _
          have Bc : Hid (Below wa.heap.size wa wc) := Bb.out.trans (Bxc.out.mono Bb.out.size)
          have R1 : Hid (Brw wc gr r.f r.j r.c) := by rw [← ewc.out, ← hgr.out]; exact Brw.new wr _ _ _
          have V2 : Hid (Brw wc gv v.f v.j v.c) := V1.out.below Bxc.out
          have hrm := List.mem_of_getElem? hr
          have hvm := List.mem_of_getElem? hv
          have hm1 : Hid (Calls Tryd.prog 44 #[rv r, rv v] wc fun e w' => e = .returned (.bool (Kc.meets r v)) ∧ Below wc.heap.size wc w') := kmeets_c r v (hrH.out r hrm) (hvH.out v hvm) wc
          have hm2 : Hid (Calls Tryd.prog 45 #[rv r, rv v] wc fun e w' => e = .returned (.bool (Kc.crossed r v)) ∧ Below wc.heap.size wc w') := kcrossed_c r v (hrH.out r hrm) (hvH.out v hvm) wc
          have hht : Hid (t.hit v r = bif tw then decide (1 < v.c) && Kc.meets r v else Kc.crossed r v) := by show _ = _; unfold Kc.To.hit; rw [htw.out]
          obtain ⟨hb, hhb⟩ : ∃ b, Hid (t.hit v r = b) := ⟨_, (rfl : _ = _)⟩
          rw [hhb.out] at hht
          have hnext : Hid (hb = false → ∀ q r, q < m + 1 → t.rd[q]? = some r → t.hit v r = false) := fun h0 q r' h1 h2 => by
            by_cases e : q = m
            · subst e; rw [hr] at h2; cases h2; rw [hhb.out]; exact h0
            · exact hbe2.out q r' (by omega) h2
          have hfin : Hid (hb = true → res = true) := fun h0 => by rw [← hres.out]; exact any_at hv (any_at hr (hhb.out.trans h0))
          generalize Kc.meets r v = b1 at hm1 hht
          generalize Kc.crossed r v = b2 at hm2 hht
          unfold rv rva at hm1 hm2
          clear hat' hr hrm hvm
          go_upto_region 7 with fail
          rw [ewc.out, hgr.out]
          clear z0 z1 z2
          obtain ⟨x0, x1, x2⟩ := X1.out.below Bc.out
          obtain ⟨y0, y1, y2⟩ := R1.out
          obtain ⟨u0, u1, u2⟩ := V2.out
          cases tw with
          | true =>
            by_cases hc1 : 1 < v.c
            · have hc1' : (1 : Int) < (v.c : Int) := by omega
              obtain rfl : hb = b1 := by rw [hht.out, decide_eq_true hc1]; rfl
              go_wp2_with fail
              refine hm1.out.mono ?_
              rintro e w1 ⟨rfl, B1⟩
              have Bn : Hid (Below wb.heap.size wb w1) := Bxc.out.trans (B1.mono Bxc.out.size)
              have Bf : Hid (Below w.heap.size w w1) := Ba.out.trans ((Bb.out.trans (Bn.out.mono Bb.out.size)).mono Ba.out.size)
              have X3 := X1.out.below (Bb.out.trans (Bn.out.mono Bb.out.size))
              clear x0 x1 x2 y0 y1 y2 u0 u1 u2 B1 hm1 hm2
              obtain ⟨x0, x1, x2⟩ := X3
              cases hb with
              | true =>
                obtain rfl : res = true := hfin.out rfl
                go_wp2
                go_ret
                exact ⟨rfl, Bf.out⟩
              | false =>
                go_wp2
                go_roundw
                case rel => exact ⟨m + 1, by omega, by go_num, Bn, by first | exact hnext.out rfl | exact hnext.out trivial⟩
                case measure => simp [intOf]; omega
            · have hc1' : decide ((1 : Int) < (v.c : Int)) = false := decide_eq_false (by omega)
              obtain rfl : hb = false := by rw [hht.out, decide_eq_false hc1]; rfl
              have Bn : Hid (Below wb.heap.size wb wc) := Bxc.out
              go_wp2
              go_roundw
              case rel => exact ⟨m + 1, by omega, by go_num, Bn, by first | exact hnext.out rfl | exact hnext.out trivial⟩
              case measure => simp [intOf]; omega
          | false =>
            obtain rfl : hb = b2 := hht.out
            go_wp2_with fail
            refine hm2.out.mono ?_
            rintro e w1 ⟨rfl, B1⟩
            have Bn : Hid (Below wb.heap.size wb w1) := Bxc.out.trans (B1.mono Bxc.out.size)
            have Bf : Hid (Below w.heap.size w w1) := Ba.out.trans ((Bb.out.trans (Bn.out.mono Bb.out.size)).mono Ba.out.size)
            have X3 := X1.out.below (Bb.out.trans (Bn.out.mono Bb.out.size))
            clear x0 x1 x2 y0 y1 y2 u0 u1 u2 B1 hm1 hm2
            obtain ⟨x0, x1, x2⟩ := X3
            cases hb with
            | true =>
              obtain rfl : res = true := hfin.out rfl
              go_wp2
              go_ret
              exact ⟨rfl, Bf.out⟩
            | false =>
              go_wp2
              go_roundw
              case rel => exact ⟨m + 1, by omega, by go_num, Bn, by first | exact hnext.out rfl | exact hnext.out trivial⟩
              case measure => simp [intOf]; omega
        · have hlm' : decide ((m : Int) < (n1 : Int)) = false := decide_eq_false (by omega)
          have hlm2 : ¬ m < n1 := hlm
          have hbef2 : Hid (∀ q v, q < k + 1 → t.wr[q]? = some v → (t.rd.any fun r => t.hit v r) = false) := fun q v' h1 h2 => by
            by_cases e : q = k
            · subst e; rw [hv] at h2; cases h2
              exact any_no fun q r h1 h2 => hbe2.out q r (by have := hn1.out; omega) h2
            · exact hbef.out q v' (by omega) h2
          go_wp2
          go_roundw
          case rel => exact ⟨k + 1, by omega, by go_num, Bt, hbef2⟩
          case measure => simp [intOf]; omega
    · have hlt' : decide ((k : Int) < (n2 : Int)) = false := decide_eq_false (by omega)
      have hlt2 : ¬ k < n2 := hlt
      obtain rfl : res = false := hres.out.symm.trans (any_no fun q r h1 h2 => hbef.out q r (by have := hn2.out; omega) h2)
      go_wp2
      go_ret
      exact ⟨rfl, Ba.out.trans (Bk.out.mono Ba.out.size)⟩
end Go.Proofs.YtedfjedmapimnaaDoor
