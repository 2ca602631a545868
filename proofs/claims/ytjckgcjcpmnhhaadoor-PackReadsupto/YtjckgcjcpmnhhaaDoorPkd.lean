/-
  Package pack: lists that are read.
-/
import Derived.Test.YtjckgcjcpmnhhaaDoorPkc
import Derived.Laws.MakeOwn
namespace Go.Proofs.YtjckgcjcpmnhhaaDoor
open Flo Go.RowKit
theorem E5.fr {w w' : World} {al : List Addr} {g : Nat} (h : E5 w al) (hf : Fr (fun k => k = g) w w') (hg : ¬ g < 5) : E5 w' al :=
  ⟨hf.cell h.short (by simp; omega), hf.cell h.varint (by simp; omega), hf.cell h.limit (by simp; omega), hf.cell h.tail (by simp; omega), hf.cell h.number (by simp; omega)⟩
/-- a row of one-cell values, in a block of its own (or nil) -/
def OwU (e : TypeId) (w : World) (v : Value) (us : List Value) : Prop := w.ownsRow 0 e 1 v us.length us
theorem OwU.slice {e : TypeId} {w : World} {v : Value} {us : List Value} (h : OwU e w v us) : ∃ n ao cap, v = .slice ao n cap ∧ Hid (n = us.length) := by
  obtain ⟨ao, cap, rfl⟩ := owns_slice h; exact ⟨_, ao, cap, rfl, rfl⟩
/-- one value more -/
theorem appU {ops : Array Oper} {rest : List Oper} {o : Oper} {a : Act} {Q : Exit → Act → World → Prop} (w : World) (hgd : o.guard = none) (s x : Operand) (t e : TypeId) (z : Value) (y : Nat)
    (ho : o.op = .call { callee := .builtin .append, args := #[s, x], argTypes := #[t, t] }) (ht : Tryd.prog.underlying t = some (.slice e)) (hinf : (Tryd.prog.info? e).map (fun i => (i.zero, i.size, i.bytes)) = some (some z, 1, y)) (hzc : z.cells.size = 1)
    (us : List Value) (u : Value) (hu1 : u.oneCell' = true) (q : Nat) (v : Value) (hs : a.eval s = v) (hx : a.eval x = .slice (some ⟨q, 0, none⟩) 1 1) (hrow : OwU e w v us)
    (hcell : w.cell? ⟨q, 0, none⟩ = some u) (hk : us.length + 1 ≤ 1048577) (hy : y ≤ 16)
    (h : ∀ v' w', OwU e w' v' (us ++ [u]) → w.grownBy w' v.ownBlock → (∀ b, v'.ownBlock = some b → v.ownBlock = some b ∨ w.heap.size ≤ b) → wpList Tryd.prog ops Q rest (a.put o.dst v') w') : wpList Tryd.prog ops Q (o :: rest) a w := by
  obtain ⟨i0, hi0, hz0, hz1, hz2⟩ := info_parts hinf
  have hm : (us.length + 1) * y ≤ 1048577 * 16 := Nat.mul_le_mul hk hy
  refine wpList_append_fr w hgd s x t ho 0 e i0 z 1 y ht hi0 hz0 hz1 hz2 hzc (by decide) v us.length _ hs hrow ⟨q, 0, none⟩ 1 1 [u] hx rfl ?_ ?_ ?_ ?_ (Nat.zero_le _) ?_
  · intro j u' hj
    match j, hj with
    | 0, hj => simp at hj; subst hj; simpa [Addr.add] using hcell
  · intro u' hu; simp at hu; subst hu; exact hu1
  · unfold maxLen; omega
  · omega
  · intro v' w1 hown' hgrow hfr
    refine h v' w1 ?_ hgrow hfr
    unfold OwU
    rw [List.length_append]
    exact hown'
/-- c elements from place k on, behind those of acc -/
def go_ {α : Type} (rd : Nat → Except Nat (α × Nat)) : Nat → Nat → List α → Except Nat (List α × Nat)
  | 0, k, acc => .ok (acc, k)
  | c + 1, k, acc => match rd k with | .error e => .error e | .ok (x, n) => go_ rd c (k + n) (acc ++ [x])
theorem go_zero {α : Type} (rd : Nat → Except Nat (α × Nat)) (k : Nat) (acc : List α) : go_ rd 0 k acc = .ok (acc, k) := rfl
theorem go_err {α : Type} {rd : Nat → Except Nat (α × Nat)} {k c : Nat} {acc : List α} {e : Nat} (h : rd k = .error e) (hc : 0 < c) : go_ rd c k acc = .error e := by
  obtain ⟨d, rfl⟩ : ∃ d, c = d + 1 := ⟨c - 1, by omega⟩
  show (match rd k with | .error e => _ | .ok (x, n) => _) = _
  rw [h]
theorem go_ok {α : Type} {rd : Nat → Except Nat (α × Nat)} {k c n : Nat} {acc : List α} {x : α} (h : rd k = .ok (x, n)) (hc : 0 < c) : go_ rd c k acc = go_ rd (c - 1) (k + n) (acc ++ [x]) := by
  obtain ⟨d, rfl⟩ : ∃ d, c = d + 1 := ⟨c - 1, by omega⟩
  show (match rd k with | .error e => _ | .ok (x, n) => _) = _
  rw [h]; rfl
theorem go_ge {α : Type} (rd : Nat → Except Nat (α × Nat)) : ∀ (c k : Nat) (acc xs : List α) (j : Nat), go_ rd c k acc = .ok (xs, j) → k ≤ j
  | 0, k, acc, xs, j, h => by cases h; exact Nat.le_refl _
  | c + 1, k, acc, xs, j, h => by
    cases hr : rd k with
    | error e => rw [go_err hr (by omega)] at h; cases h
    | ok p =>
      obtain ⟨x, n⟩ := p
      rw [go_ok hr (by omega)] at h
      have := go_ge rd c (k + n) _ xs j h
      omega
/-- a list that is read: how many, then each -/
def rl2 {α : Type} (k : Nat) (r : Except Nat (List α × Nat)) : Except Nat (List α × Nat) := match r with | .error e => .error e | .ok (xs, j) => .ok (xs, j - k)
def rlo {α : Type} (rd : Nat → Except Nat (α × Nat)) (k : Nat) (r : Except Nat (Nat × Nat)) : Except Nat (List α × Nat) := match r with | .error e => .error e | .ok (c, n) => rl2 k (go_ rd c (k + n) [])
def rli {α : Type} (rd : Nat → Except Nat (α × Nat)) (bs : List Nat) (k : Nat) : Except Nat (List α × Nat) := rlo rd k (upr 1048576 (Pk.rv 0 0 (bs.drop k)))
def lx {α : Type} (r : Except Nat (List α × Nat)) : List α := match r with | .ok (xs, _) => xs | .error _ => []
/-- a new row of these values -/
structure NewU (e : TypeId) (w w' : World) (v : Value) (us : List Value) : Prop where
  own : OwU e w' v us
  new : ∀ b, v.ownBlock = some b → w.heap.size ≤ b
theorem owU_nil (e : TypeId) (w : World) : OwU e w (.slice none 0 0) [] := World.ownsRow_nil _ _ _ _
theorem newU_nil (e : TypeId) (w w' : World) : NewU e w w' (.slice none 0 0) [] := ⟨owU_nil e w', fun b hb => by cases hb⟩
theorem infoF : (Tryd.prog.info? 61).map (fun i => (i.zero, i.size, i.bytes)) = some (some (.float .f64 0), 1, 8) := by kernel_rfl
theorem infoC : (Tryd.prog.info? 54).map (fun i => (i.zero, i.size, i.bytes)) = some (some (.complex .f64 0 0), 1, 16) := by kernel_rfl
theorem makeU (w : World) (t e : TypeId) (z : Value) (y c : Nat) (ht : Tryd.prog.underlying t = some (.slice e)) (hinf : (Tryd.prog.info? e).map (fun i => (i.zero, i.size, i.bytes)) = some (some z, 1, y)) (hc : c ≤ 1048576) (hy : y ≤ 16) :
    ∃ w', (Instr.makeSlice t (.int .i64 0) (.int .i64 (c : Int))).run Tryd.prog w = .ok (.slice (some ⟨w.heap.size, 0, none⟩) 0 c) w' ∧
      Hid (OwU e w' (.slice (some ⟨w.heap.size, 0, none⟩) 0 c) []) ∧ Hid (∀ S, Fr S w w') := by
  obtain ⟨i0, hi0, hz0, hz1, hz2⟩ := info_parts hinf
  have hm : c * y ≤ 1048576 * 16 := Nat.mul_le_mul hc hy
  have h := run_make (P := Tryd.prog) w t e i0 z ht hi0 hz0 .i64 .i64 0 c (by omega) (by omega) (by
    have e : (y : Int) * (c : Int) = ((c * y : Nat) : Int) := by rw [Int.mul_comm]; simp
    rw [hz2, e]; omega) (by omega)
  simp only [Int.toNat_natCast, hz1, Nat.mul_one] at h
  refine ⟨_, h, ?_, fun S => (Fr.refl S w).alloc _⟩
  have h2 : OwU e (w.alloc (.cells (madeCells z.cells c) e)) (.slice (some ⟨w.heap.size, 0, none⟩) 0 c) [] := World.ownsRow_made w _ c (Nat.zero_le _) (by unfold maxLen; omega) (by rw [size_madeCells, Nat.mul_one])
  exact h2
set_option maxRecDepth 100000 in
set_option maxHeartbeats 4000000 in
theorem rlf_c (R : Nat → Prop) (g k : Nat) (bs : List Nat) (al : List Addr) (w : World) (h : Rr R w g bs k) (he : E5 w al) (hg : ¬ g < 5) :
    Calls Tryd.prog 90 #[.pointer (some ⟨g, 0, none⟩), .int .i64 8, .func (.func 30) #[.pointer (some ⟨g, 0, none⟩)] #[]] w fun e w' => ∃ v', e = .returned (.tuple #[v', ue al (rli (rfl_ bs) bs k)]) ∧ NewU 61 w w' v' (fcs (lx (rli (rfl_ bs) bs k))) ∧ Rr R w' g bs (k + Pk.ud (rli (rfl_ bs) bs k)) ∧ Fr (fun k => k = g) w w' := by
  have hH : Hid (Rr (fun b => R b ∧ b < w.heap.size) w g bs k) := h.to fun b hb hr => ⟨hr, hb⟩
  have heH : Hid (∀ w', Fr (fun k => k = g) w w' → E5 w' al) := fun w' hf => he.fr hf hg
  have hgl : Hid (g < w.heap.size) := h.lt
  have hback : Hid (∀ w' j, Rr (fun b => R b ∧ b < w.heap.size) w' g bs j → Rr R w' g bs j) := fun w' j hr => hr.to fun b _ hh => hh.1
  have hbig : Hid (bs.length ≤ 140737488355328) := h.big
  have hupb : Hid (k + Pk.ud (upr 1048576 (Pk.rv 0 0 (bs.drop k))) ≤ bs.length) := upr_bd h.byt k h.le 1048576
  have hle : Hid (k ≤ bs.length) := h.le
  have hc1 : w.cell? ⟨g, 1, none⟩ = some (.int .i64 (k : Int)) := by obtain ⟨v, h⟩ := h; exact h.c1
  have hru : Hid (Calls Tryd.prog 50 #[.pointer (some ⟨g, 0, none⟩), .int .i64 1048576] w fun e w' => e = .returned (.tuple #[.int .i64 (Pk.ux (upr 1048576 (Pk.rv 0 0 (bs.drop k))) : Nat), ue al (upr 1048576 (Pk.rv 0 0 (bs.drop k)))]) ∧ Rr (fun b => R b ∧ b < w.heap.size) w' g bs (k + Pk.ud (upr 1048576 (Pk.rv 0 0 (bs.drop k)))) ∧ Fr (fun k => k = g) w w') := rupto_c _ g k 1048576 bs al w hH.out he hg (by decide)
  have hrl : Hid (rli (rfl_ bs) bs k = rlo (rfl_ bs) k (upr 1048576 (Pk.rv 0 0 (bs.drop k)))) := rfl
  have hcl : Hid (∀ c n, upr 1048576 (Pk.rv 0 0 (bs.drop k)) = .ok (c, n) → c ≤ 1048576) := by
    intro c n hh
    cases hr : Pk.rv 0 0 (bs.drop k) with
    | error e => rw [hr] at hh; cases hh
    | ok p =>
      obtain ⟨x, m⟩ := p
      rw [hr] at hh
      by_cases hx : (1048576 : Int) < 0 ∨ (1048576 : Int) < (x : Int)
      · rw [upr_lim hx] at hh; cases hh
      · rw [upr_ok hx] at hh; cases hh; omega
  clear h he
  generalize upr 1048576 (Pk.rv 0 0 (bs.drop k)) = r at hru hrl hcl hupb
  generalize rli (rfl_ bs) bs k = rr at hrl ⊢
  go_enter Tryd.func90, Tryd.ntmps90
  go_wp2_with fail
  refine hru.out.mono ?_
  rintro e w1 ⟨rfl, h1, h2⟩
  have h1H : Hid (Rr (fun b => R b ∧ b < w.heap.size) w1 g bs (k + Pk.ud r)) := h1
  have h2H : Hid (Fr (fun k => k = g) w w1) := h2
  clear h1 h2 hru
  cases r with
  | error c =>
    have hq := nnil_c al c
    have hgd := guard_c al c
    have hue : ue al (Except.error c : Except Nat (Nat × Nat)) = ek al c := rfl
    have hfin : Hid (rr = .error c) := hrl.out
    clear hrl hcl hupb
    go_wp2
    go_ret2
    rw [hfin.out]
    exact ⟨_, rfl, newU_nil _ _ _, hback.out _ _ h1H.out, h2H.out⟩
  | ok p =>
    obtain ⟨c, n⟩ := p
    have hue : ue al (Except.ok (c, n) : Except Nat (Nat × Nat)) = .nilIface := rfl
    have hux : Pk.ux (Except.ok (c, n)) = c := rfl
    have hc : c ≤ 1048576 := hcl.out c n rfl
    have hupb2 : Hid (k + n ≤ bs.length) := hupb.out
    have h1H2 : Hid (Rr (fun b => R b ∧ b < w.heap.size) w1 g bs (k + n)) := h1H.out
    have hrl2 : Hid (rr = rl2 k (go_ (rfl_ bs) c (k + n) [])) := hrl.out
    clear hcl hrl hupb h1H
    go_wp2_with fail
    refine (rleft_c _ g (k + n) bs w1 h1H2.out).mono ?_
    rintro e w2 ⟨L, rfl, hL, hq2⟩
    have h3H : Hid (Fr (fun k => k = g) w w2) := h2H.out.then (hq2.fr _)
    have h4H : Hid (Rr (fun b => R b ∧ b < w.heap.size) w2 g bs (k + n)) := h1H2.out.qt hq2
    have hLb : L ≤ 140737488355328 := by have := hL.out; have := hbig.out; omega
    clear hq2 h1H2 h2H
    have hc1' : Hid (∀ w', Fr (fun k => k = g) w w' → ∀ j, Rr (fun b => R b ∧ b < w.heap.size) w' g bs j → (∃ u, w'.cell? ⟨g, 1, none⟩ = some u) ∧ w'.frozen? ⟨g, 1, none⟩ = false ∧ Hid (Rr R (w'.setCell ⟨g, 1, none⟩ (.int .i64 (k : Int))) g bs k)) := by
      intro w' hf j ⟨v, hv⟩
      exact ⟨⟨_, hv.c1⟩, hv.free, hback.out _ _ ⟨v, hv.move hle.out⟩⟩
    generalize hr2 : go_ (rfl_ bs) c (k + n) [] = r2 at hrl2
    have hr2H : Hid (go_ (rfl_ bs) c (k + n) [] = r2) := hr2
    have hr2K := hr2H
    clear hr2
    by_cases hm : c ≤ L / 8
    · have hm' : (c : Int) ≤ (L : Int) / 8 := by omega
      obtain ⟨w3, hmk, hown, hfr3⟩ := makeU w2 87 61 (.float .f64 0) 8 c Tryd.underlying87 infoF hc (by decide)
      have hown2 : Hid (∀ b, (Value.ownBlock (.slice (some ⟨w2.heap.size, 0, none⟩) 0 0)) = some b → w.heap.size ≤ b) := fun b hb => by
        cases hb; exact h3H.out.size
      have hR3 : Hid (Rr (fun b => R b ∧ b < w.heap.size) w3 g bs (k + n)) := h4H.out.under (hfr3.out (fun _ => False)) fun _ _ hh => hh.elim
      have hF3 : Hid (Fr (fun k => k = g) w w3) := h3H.out.then (hfr3.out _)
      clear h3H h4H hfr3
      go_wp2
      clear hmk
      go_loopw [11, 34] (fun sl si wr => ∃ (i K : Nat) (acc : List (Nat)), si = .int .i64 (i : Int) ∧ i ≤ c ∧ Hid (go_ (rfl_ bs) (c - i) K acc = r2) ∧ Hid (acc.length = i) ∧ Hid (OwU 61 wr sl (fcs acc)) ∧ Hid (∀ b, sl.ownBlock = some b → w.heap.size ≤ b) ∧ Hid (Rr (fun b => R b ∧ b < w.heap.size) wr g bs K) ∧ Hid (Fr (fun k => k = g) w wr)) (fun _ si _ => c - (intOf si).toNat)
      case atStart => exact ⟨0, k + n, [], rfl, Nat.zero_le _, hr2H, rfl, hown, hown2, hR3, hF3⟩
      case round =>
        clear hown hown2 hR3 hF3 hr2H
        obtain ⟨i, K, acc, rfl, hi, hgo, hacc, how, hnew, hR, hf⟩ := hrel
        by_cases hlt : i < c
        · have hlt' : (i : Int) < (c : Int) := by omega
          have hcon : Hid (Calls Tryd.prog 30 #[.pointer (some ⟨g, 0, none⟩)] wr fun e w' => e = .returned (.tuple #[.float .f64 (Pk.ux (rfl_ bs K)), ue al (rfl_ bs K)]) ∧ Rr (fun b => R b ∧ b < w.heap.size) w' g bs (K + Pk.ud (rfl_ bs K)) ∧ Fr (fun k => k = g) wr w') := rfloat_c (fun b => R b ∧ b < w.heap.size) g K bs al wr hR.out (heH.out wr hf.out)
          have hge : Hid (∀ e, rfl_ bs K = .error e → r2 = .error e) := fun e hh => by rw [← hgo.out]; exact go_err hh (by omega)
          have hgk : Hid (∀ x n, rfl_ bs K = .ok (x, n) → go_ (rfl_ bs) (c - (i + 1)) (K + n) (acc ++ [x]) = r2) := fun x n hh => by
            have h5 := go_ok (acc := acc) hh (show 0 < c - i by omega)
            rw [← hgo.out, h5]; rfl
          clear hgo
          generalize rfl_ bs K = re at hcon hge hgk
          go_wp2_with fail
          refine hcon.out.mono ?_
          rintro e w4 ⟨rfl, h5, h6⟩
          have h6H : Hid (Fr (fun k => k = g) w w4) := hf.out.then h6
          have hrow4 : Hid (OwU 61 w4 u11 (fcs acc)) := Fr.owns h6 how.out fun b hb hbg => by
            have h7 := hnew.out b hb
            have h8 := hgl.out
            have h9 : b = g := hbg
            omega
          have h5H : Hid (Rr (fun b => R b ∧ b < w.heap.size) w4 g bs (K + Pk.ud re)) := h5
          obtain ⟨⟨u, hcu⟩, hfz, hst⟩ := hc1'.out w4 h6H.out _ h5
          clear h5 h6 how hcon hR hf
          cases re with
          | error c2 =>
            have hq := nnil_c al c2
            have hgd := guard_c al c2
            have hue2 : ue al (Except.error c2 : Except Nat ((Nat) × Nat)) = ek al c2 := rfl
            have hfin : Hid (rr = .error c2) := by rw [hrl2.out, hge.out c2 rfl]; rfl
            clear hge hgk hrl2
            go_wp2
            go_ret2
            rw [hfin.out]
            exact ⟨_, rfl, newU_nil _ _ _, hst.out, Fr.setCell (S := fun k => k = g) (p := ⟨g, 1, none⟩) h6H.out rfl _⟩
          | ok p2 =>
            obtain ⟨x, n2⟩ := p2
            have hue2 : ue al (Except.ok (x, n2) : Except Nat ((Nat) × Nat)) = .nilIface := rfl
            have hval : (Value.float .f64 (Pk.ux (Except.ok (x, n2) : Except Nat (Nat × Nat)))) = .float .f64 x := rfl
            have hgk2 : Hid (go_ (rfl_ bs) (c - (i + 1)) (K + n2) (acc ++ [x]) = r2) := hgk.out x n2 rfl
            have h5H2 : Hid (Rr (fun b => R b ∧ b < w.heap.size) w4 g bs (K + n2)) := h5H.out
            have hlen : Hid ((fcs acc).length + 1 ≤ 1048577) := by show _ ≤ _; have := hacc.out; rw [fcs_len]; omega
            have hcsn : Hid (fcs acc ++ [.float .f64 x] = fcs (acc ++ [x])) := by simp [Hid, fcs]
            obtain ⟨us, hus⟩ : ∃ us, us = fcs acc := ⟨_, rfl⟩
            rw [← hus] at hrow4 hlen hcsn
            clear hge hgk hst hus h5H
            go_wp2_with (first | (at_builtin; refine appU _ rfl _ _ 87 61 (.float .f64 0) 8 rfl Tryd.underlying87 infoF rfl us (.float .f64 x) rfl w4.heap.size u11 rfl rfl (World.ownsRow.alloc hrow4.out _) (by simp [Pk.ux]) hlen.out (by decide) ?_) | fail)
            intro v' w5 ho hgr hnn
            have ho2 : Hid (OwU 61 w5 v' (fcs (acc ++ [x]))) := by rw [← hcsn.out]; exact ho
            have hnew2 : Hid (∀ b, v'.ownBlock = some b → w.heap.size ≤ b) := fun b hb => by
              rcases hnn b hb with h7 | h7
              · exact hnew.out b h7
              · have := h6H.out.size; omega
            have hfr5 : Fr (fun b => u11.ownBlock = some b) w4 w5 := ((Fr.refl _ w4).alloc _).grown hgr fun b hb => hb
            have hR5 : Hid (Rr (fun b => R b ∧ b < w.heap.size) w5 g bs (K + n2)) := h5H2.out.under hfr5 fun b _ hb hr => by
              have := hnew.out b hb; omega
            have hF5 : Hid (Fr (fun k => k = g) w w5) := h6H.out.trans hfr5 fun b hb => .inr (hnew.out b hb)
            have hacc2 : Hid ((acc ++ [x]).length = i + 1) := by show _ = _; rw [List.length_append, hacc.out]; rfl
            clear ho hgr hnn hfr5 h6H h5H2 hrow4 hnew hcsn
            go_wp2
            go_roundw
            case rel => exact ⟨i + 1, _, _, by go_num, by omega, hgk2, hacc2, ho2, hnew2, hR5, hF5⟩
            case measure => simp [intOf]; omega
        · have hlt' : decide ((i : Int) < (c : Int)) = false := decide_eq_false (by omega)
          have hr2e : r2 = .ok (acc, K) := by rw [← hgo.out, show c - i = 0 by omega]; rfl
          have hfin : Hid (rr = .ok (acc, K - k)) := by rw [hrl2.out, hr2e]; rfl
          have hKk : Hid (k ≤ K ∧ K ≤ bs.length) := ⟨by
            have h9 := go_ge (rfl_ bs) c (k + n) [] acc K (hr2K.out.trans hr2e)
            omega, hR.out.le⟩
          clear hgo hr2e
          go_wp2
          go_ret2
          rw [hfin.out]
          refine ⟨_, rfl, ⟨how.out, hnew.out⟩, ?_, hf.out⟩
          have e9 : k + Pk.ud (Except.ok (acc, K - k) : Except Nat (List (Nat) × Nat)) = K := by show k + (K - k) = K; have := hKk.out.1; omega
          rw [e9]; exact hback.out _ _ hR.out
    · have hm' : ¬ (c : Int) ≤ (L : Int) / 8 := by omega
      have hm2 : (L : Int) / 8 < (c : Int) := by omega
      obtain ⟨C, hC⟩ : ∃ C, L / 8 = C := ⟨_, rfl⟩
      obtain ⟨w3, hmk0, hown, hfr3⟩ := makeU w2 87 61 (.float .f64 0) 8 C Tryd.underlying87 infoF (by omega) (by decide)
      have hmk : (Instr.makeSlice 87 (.int .i64 0) (.int .i64 ((L : Int) / 8))).run Tryd.prog w2 = .ok (.slice (some ⟨w2.heap.size, 0, none⟩) 0 C) w3 := by
        rw [show (L : Int) / 8 = (C : Int) by omega]; exact hmk0
      clear hmk0 hC
      have hown2 : Hid (∀ b, (Value.ownBlock (.slice (some ⟨w2.heap.size, 0, none⟩) 0 0)) = some b → w.heap.size ≤ b) := fun b hb => by
        cases hb; exact h3H.out.size
      have hR3 : Hid (Rr (fun b => R b ∧ b < w.heap.size) w3 g bs (k + n)) := h4H.out.under (hfr3.out (fun _ => False)) fun _ _ hh => hh.elim
      have hF3 : Hid (Fr (fun k => k = g) w w3) := h3H.out.then (hfr3.out _)
      clear h3H h4H hfr3
      go_wp2
      clear hmk
      go_loopw [11, 34] (fun sl si wr => ∃ (i K : Nat) (acc : List (Nat)), si = .int .i64 (i : Int) ∧ i ≤ c ∧ Hid (go_ (rfl_ bs) (c - i) K acc = r2) ∧ Hid (acc.length = i) ∧ Hid (OwU 61 wr sl (fcs acc)) ∧ Hid (∀ b, sl.ownBlock = some b → w.heap.size ≤ b) ∧ Hid (Rr (fun b => R b ∧ b < w.heap.size) wr g bs K) ∧ Hid (Fr (fun k => k = g) w wr)) (fun _ si _ => c - (intOf si).toNat)
      case atStart => exact ⟨0, k + n, [], rfl, Nat.zero_le _, hr2H, rfl, hown, hown2, hR3, hF3⟩
      case round =>
        clear hown hown2 hR3 hF3 hr2H
        obtain ⟨i, K, acc, rfl, hi, hgo, hacc, how, hnew, hR, hf⟩ := hrel
        by_cases hlt : i < c
        · have hlt' : (i : Int) < (c : Int) := by omega
          have hcon : Hid (Calls Tryd.prog 30 #[.pointer (some ⟨g, 0, none⟩)] wr fun e w' => e = .returned (.tuple #[.float .f64 (Pk.ux (rfl_ bs K)), ue al (rfl_ bs K)]) ∧ Rr (fun b => R b ∧ b < w.heap.size) w' g bs (K + Pk.ud (rfl_ bs K)) ∧ Fr (fun k => k = g) wr w') := rfloat_c (fun b => R b ∧ b < w.heap.size) g K bs al wr hR.out (heH.out wr hf.out)
          have hge : Hid (∀ e, rfl_ bs K = .error e → r2 = .error e) := fun e hh => by rw [← hgo.out]; exact go_err hh (by omega)
          have hgk : Hid (∀ x n, rfl_ bs K = .ok (x, n) → go_ (rfl_ bs) (c - (i + 1)) (K + n) (acc ++ [x]) = r2) := fun x n hh => by
            have h5 := go_ok (acc := acc) hh (show 0 < c - i by omega)
            rw [← hgo.out, h5]; rfl
          clear hgo
          generalize rfl_ bs K = re at hcon hge hgk
          go_wp2_with fail
          refine hcon.out.mono ?_
          rintro e w4 ⟨rfl, h5, h6⟩
          have h6H : Hid (Fr (fun k => k = g) w w4) := hf.out.then h6
          have hrow4 : Hid (OwU 61 w4 u11 (fcs acc)) := Fr.owns h6 how.out fun b hb hbg => by
            have h7 := hnew.out b hb
            have h8 := hgl.out
            have h9 : b = g := hbg
            omega
          have h5H : Hid (Rr (fun b => R b ∧ b < w.heap.size) w4 g bs (K + Pk.ud re)) := h5
          obtain ⟨⟨u, hcu⟩, hfz, hst⟩ := hc1'.out w4 h6H.out _ h5
          clear h5 h6 how hcon hR hf
          cases re with
          | error c2 =>
            have hq := nnil_c al c2
            have hgd := guard_c al c2
            have hue2 : ue al (Except.error c2 : Except Nat ((Nat) × Nat)) = ek al c2 := rfl
            have hfin : Hid (rr = .error c2) := by rw [hrl2.out, hge.out c2 rfl]; rfl
            clear hge hgk hrl2
            go_wp2
            go_ret2
            rw [hfin.out]
            exact ⟨_, rfl, newU_nil _ _ _, hst.out, Fr.setCell (S := fun k => k = g) (p := ⟨g, 1, none⟩) h6H.out rfl _⟩
          | ok p2 =>
            obtain ⟨x, n2⟩ := p2
            have hue2 : ue al (Except.ok (x, n2) : Except Nat ((Nat) × Nat)) = .nilIface := rfl
            have hval : (Value.float .f64 (Pk.ux (Except.ok (x, n2) : Except Nat (Nat × Nat)))) = .float .f64 x := rfl
            have hgk2 : Hid (go_ (rfl_ bs) (c - (i + 1)) (K + n2) (acc ++ [x]) = r2) := hgk.out x n2 rfl
            have h5H2 : Hid (Rr (fun b => R b ∧ b < w.heap.size) w4 g bs (K + n2)) := h5H.out
            have hlen : Hid ((fcs acc).length + 1 ≤ 1048577) := by show _ ≤ _; have := hacc.out; rw [fcs_len]; omega
            have hcsn : Hid (fcs acc ++ [.float .f64 x] = fcs (acc ++ [x])) := by simp [Hid, fcs]
            obtain ⟨us, hus⟩ : ∃ us, us = fcs acc := ⟨_, rfl⟩
            rw [← hus] at hrow4 hlen hcsn
            clear hge hgk hst hus h5H
            go_wp2_with (first | (at_builtin; refine appU _ rfl _ _ 87 61 (.float .f64 0) 8 rfl Tryd.underlying87 infoF rfl us (.float .f64 x) rfl w4.heap.size u11 rfl rfl (World.ownsRow.alloc hrow4.out _) (by simp [Pk.ux]) hlen.out (by decide) ?_) | fail)
            intro v' w5 ho hgr hnn
            have ho2 : Hid (OwU 61 w5 v' (fcs (acc ++ [x]))) := by rw [← hcsn.out]; exact ho
            have hnew2 : Hid (∀ b, v'.ownBlock = some b → w.heap.size ≤ b) := fun b hb => by
              rcases hnn b hb with h7 | h7
              · exact hnew.out b h7
              · have := h6H.out.size; omega
            have hfr5 : Fr (fun b => u11.ownBlock = some b) w4 w5 := ((Fr.refl _ w4).alloc _).grown hgr fun b hb => hb
            have hR5 : Hid (Rr (fun b => R b ∧ b < w.heap.size) w5 g bs (K + n2)) := h5H2.out.under hfr5 fun b _ hb hr => by
              have := hnew.out b hb; omega
            have hF5 : Hid (Fr (fun k => k = g) w w5) := h6H.out.trans hfr5 fun b hb => .inr (hnew.out b hb)
            have hacc2 : Hid ((acc ++ [x]).length = i + 1) := by show _ = _; rw [List.length_append, hacc.out]; rfl
            clear ho hgr hnn hfr5 h6H h5H2 hrow4 hnew hcsn
            go_wp2
            go_roundw
            case rel => exact ⟨i + 1, _, _, by go_num, by omega, hgk2, hacc2, ho2, hnew2, hR5, hF5⟩
            case measure => simp [intOf]; omega
        · have hlt' : decide ((i : Int) < (c : Int)) = false := decide_eq_false (by omega)
          have hr2e : r2 = .ok (acc, K) := by rw [← hgo.out, show c - i = 0 by omega]; rfl
          have hfin : Hid (rr = .ok (acc, K - k)) := by rw [hrl2.out, hr2e]; rfl
          have hKk : Hid (k ≤ K ∧ K ≤ bs.length) := ⟨by
            have h9 := go_ge (rfl_ bs) c (k + n) [] acc K (hr2K.out.trans hr2e)
            omega, hR.out.le⟩
          clear hgo hr2e
          go_wp2
          go_ret2
          rw [hfin.out]
          refine ⟨_, rfl, ⟨how.out, hnew.out⟩, ?_, hf.out⟩
          have e9 : k + Pk.ud (Except.ok (acc, K - k) : Except Nat (List (Nat) × Nat)) = K := by show k + (K - k) = K; have := hKk.out.1; omega
          rw [e9]; exact hback.out _ _ hR.out
set_option maxRecDepth 100000 in
set_option maxHeartbeats 4000000 in
theorem rlc_c (R : Nat → Prop) (g k : Nat) (bs : List Nat) (al : List Addr) (w : World) (h : Rr R w g bs k) (he : E5 w al) (hg : ¬ g < 5) :
    Calls Tryd.prog 69 #[.pointer (some ⟨g, 0, none⟩), .int .i64 16, .func (.func 56) #[.pointer (some ⟨g, 0, none⟩)] #[]] w fun e w' => ∃ v', e = .returned (.tuple #[v', ue al (rli (rcx bs) bs k)]) ∧ NewU 54 w w' v' (ccs (lx (rli (rcx bs) bs k))) ∧ Rr R w' g bs (k + Pk.ud (rli (rcx bs) bs k)) ∧ Fr (fun k => k = g) w w' := by
  have hH : Hid (Rr (fun b => R b ∧ b < w.heap.size) w g bs k) := h.to fun b hb hr => ⟨hr, hb⟩
  have heH : Hid (∀ w', Fr (fun k => k = g) w w' → E5 w' al) := fun w' hf => he.fr hf hg
  have hgl : Hid (g < w.heap.size) := h.lt
  have hback : Hid (∀ w' j, Rr (fun b => R b ∧ b < w.heap.size) w' g bs j → Rr R w' g bs j) := fun w' j hr => hr.to fun b _ hh => hh.1
  have hbig : Hid (bs.length ≤ 140737488355328) := h.big
  have hupb : Hid (k + Pk.ud (upr 1048576 (Pk.rv 0 0 (bs.drop k))) ≤ bs.length) := upr_bd h.byt k h.le 1048576
  have hle : Hid (k ≤ bs.length) := h.le
  have hc1 : w.cell? ⟨g, 1, none⟩ = some (.int .i64 (k : Int)) := by obtain ⟨v, h⟩ := h; exact h.c1
  have hru : Hid (Calls Tryd.prog 50 #[.pointer (some ⟨g, 0, none⟩), .int .i64 1048576] w fun e w' => e = .returned (.tuple #[.int .i64 (Pk.ux (upr 1048576 (Pk.rv 0 0 (bs.drop k))) : Nat), ue al (upr 1048576 (Pk.rv 0 0 (bs.drop k)))]) ∧ Rr (fun b => R b ∧ b < w.heap.size) w' g bs (k + Pk.ud (upr 1048576 (Pk.rv 0 0 (bs.drop k)))) ∧ Fr (fun k => k = g) w w') := rupto_c _ g k 1048576 bs al w hH.out he hg (by decide)
  have hrl : Hid (rli (rcx bs) bs k = rlo (rcx bs) k (upr 1048576 (Pk.rv 0 0 (bs.drop k)))) := rfl
  have hcl : Hid (∀ c n, upr 1048576 (Pk.rv 0 0 (bs.drop k)) = .ok (c, n) → c ≤ 1048576) := by
    intro c n hh
    cases hr : Pk.rv 0 0 (bs.drop k) with
    | error e => rw [hr] at hh; cases hh
    | ok p =>
      obtain ⟨x, m⟩ := p
      rw [hr] at hh
      by_cases hx : (1048576 : Int) < 0 ∨ (1048576 : Int) < (x : Int)
      · rw [upr_lim hx] at hh; cases hh
      · rw [upr_ok hx] at hh; cases hh; omega
  clear h he
  generalize upr 1048576 (Pk.rv 0 0 (bs.drop k)) = r at hru hrl hcl hupb
  generalize rli (rcx bs) bs k = rr at hrl ⊢
  go_enter Tryd.func69, Tryd.ntmps69
  go_wp2_with fail
  refine hru.out.mono ?_
  rintro e w1 ⟨rfl, h1, h2⟩
  have h1H : Hid (Rr (fun b => R b ∧ b < w.heap.size) w1 g bs (k + Pk.ud r)) := h1
  have h2H : Hid (Fr (fun k => k = g) w w1) := h2
  clear h1 h2 hru
  cases r with
  | error c =>
    have hq := nnil_c al c
    have hgd := guard_c al c
    have hue : ue al (Except.error c : Except Nat (Nat × Nat)) = ek al c := rfl
    have hfin : Hid (rr = .error c) := hrl.out
    clear hrl hcl hupb
    go_wp2
    go_ret2
    rw [hfin.out]
    exact ⟨_, rfl, newU_nil _ _ _, hback.out _ _ h1H.out, h2H.out⟩
  | ok p =>
    obtain ⟨c, n⟩ := p
    have hue : ue al (Except.ok (c, n) : Except Nat (Nat × Nat)) = .nilIface := rfl
    have hux : Pk.ux (Except.ok (c, n)) = c := rfl
    have hc : c ≤ 1048576 := hcl.out c n rfl
    have hupb2 : Hid (k + n ≤ bs.length) := hupb.out
    have h1H2 : Hid (Rr (fun b => R b ∧ b < w.heap.size) w1 g bs (k + n)) := h1H.out
    have hrl2 : Hid (rr = rl2 k (go_ (rcx bs) c (k + n) [])) := hrl.out
    clear hcl hrl hupb h1H
    go_wp2_with fail
    refine (rleft_c _ g (k + n) bs w1 h1H2.out).mono ?_
    rintro e w2 ⟨L, rfl, hL, hq2⟩
    have h3H : Hid (Fr (fun k => k = g) w w2) := h2H.out.then (hq2.fr _)
    have h4H : Hid (Rr (fun b => R b ∧ b < w.heap.size) w2 g bs (k + n)) := h1H2.out.qt hq2
    have hLb : L ≤ 140737488355328 := by have := hL.out; have := hbig.out; omega
    clear hq2 h1H2 h2H
    have hc1' : Hid (∀ w', Fr (fun k => k = g) w w' → ∀ j, Rr (fun b => R b ∧ b < w.heap.size) w' g bs j → (∃ u, w'.cell? ⟨g, 1, none⟩ = some u) ∧ w'.frozen? ⟨g, 1, none⟩ = false ∧ Hid (Rr R (w'.setCell ⟨g, 1, none⟩ (.int .i64 (k : Int))) g bs k)) := by
      intro w' hf j ⟨v, hv⟩
      exact ⟨⟨_, hv.c1⟩, hv.free, hback.out _ _ ⟨v, hv.move hle.out⟩⟩
    generalize hr2 : go_ (rcx bs) c (k + n) [] = r2 at hrl2
    have hr2H : Hid (go_ (rcx bs) c (k + n) [] = r2) := hr2
    have hr2K := hr2H
    clear hr2
    by_cases hm : c ≤ L / 16
    · have hm' : (c : Int) ≤ (L : Int) / 16 := by omega
      obtain ⟨w3, hmk, hown, hfr3⟩ := makeU w2 52 54 (.complex .f64 0 0) 16 c Tryd.underlying52 infoC hc (by decide)
      have hown2 : Hid (∀ b, (Value.ownBlock (.slice (some ⟨w2.heap.size, 0, none⟩) 0 0)) = some b → w.heap.size ≤ b) := fun b hb => by
        cases hb; exact h3H.out.size
      have hR3 : Hid (Rr (fun b => R b ∧ b < w.heap.size) w3 g bs (k + n)) := h4H.out.under (hfr3.out (fun _ => False)) fun _ _ hh => hh.elim
      have hF3 : Hid (Fr (fun k => k = g) w w3) := h3H.out.then (hfr3.out _)
      clear h3H h4H hfr3
      go_wp2
      clear hmk
      go_loopw [11, 34] (fun sl si wr => ∃ (i K : Nat) (acc : List (Nat × Nat)), si = .int .i64 (i : Int) ∧ i ≤ c ∧ Hid (go_ (rcx bs) (c - i) K acc = r2) ∧ Hid (acc.length = i) ∧ Hid (OwU 54 wr sl (ccs acc)) ∧ Hid (∀ b, sl.ownBlock = some b → w.heap.size ≤ b) ∧ Hid (Rr (fun b => R b ∧ b < w.heap.size) wr g bs K) ∧ Hid (Fr (fun k => k = g) w wr)) (fun _ si _ => c - (intOf si).toNat)
      case atStart => exact ⟨0, k + n, [], rfl, Nat.zero_le _, hr2H, rfl, hown, hown2, hR3, hF3⟩
      case round =>
        clear hown hown2 hR3 hF3 hr2H
        obtain ⟨i, K, acc, rfl, hi, hgo, hacc, how, hnew, hR, hf⟩ := hrel
        by_cases hlt : i < c
        · have hlt' : (i : Int) < (c : Int) := by omega
          have hcon : Hid (Calls Tryd.prog 56 #[.pointer (some ⟨g, 0, none⟩)] wr fun e w' => e = .returned (.tuple #[cxv (rcx bs K), ue al (rcx bs K)]) ∧ Rr (fun b => R b ∧ b < w.heap.size) w' g bs (K + Pk.ud (rcx bs K)) ∧ Fr (fun k => k = g) wr w') := rcomplex_c (fun b => R b ∧ b < w.heap.size) g K bs al wr hR.out (heH.out wr hf.out)
          have hge : Hid (∀ e, rcx bs K = .error e → r2 = .error e) := fun e hh => by rw [← hgo.out]; exact go_err hh (by omega)
          have hgk : Hid (∀ x n, rcx bs K = .ok (x, n) → go_ (rcx bs) (c - (i + 1)) (K + n) (acc ++ [x]) = r2) := fun x n hh => by
            have h5 := go_ok (acc := acc) hh (show 0 < c - i by omega)
            rw [← hgo.out, h5]; rfl
          clear hgo
          generalize rcx bs K = re at hcon hge hgk
          go_wp2_with fail
          refine hcon.out.mono ?_
          rintro e w4 ⟨rfl, h5, h6⟩
          have h6H : Hid (Fr (fun k => k = g) w w4) := hf.out.then h6
          have hrow4 : Hid (OwU 54 w4 u11 (ccs acc)) := Fr.owns h6 how.out fun b hb hbg => by
            have h7 := hnew.out b hb
            have h8 := hgl.out
            have h9 : b = g := hbg
            omega
          have h5H : Hid (Rr (fun b => R b ∧ b < w.heap.size) w4 g bs (K + Pk.ud re)) := h5
          obtain ⟨⟨u, hcu⟩, hfz, hst⟩ := hc1'.out w4 h6H.out _ h5
          clear h5 h6 how hcon hR hf
          cases re with
          | error c2 =>
            have hq := nnil_c al c2
            have hgd := guard_c al c2
            have hue2 : ue al (Except.error c2 : Except Nat ((Nat × Nat) × Nat)) = ek al c2 := rfl
            have hfin : Hid (rr = .error c2) := by rw [hrl2.out, hge.out c2 rfl]; rfl
            clear hge hgk hrl2
            go_wp2
            go_ret2
            rw [hfin.out]
            exact ⟨_, rfl, newU_nil _ _ _, hst.out, Fr.setCell (S := fun k => k = g) (p := ⟨g, 1, none⟩) h6H.out rfl _⟩
          | ok p2 =>
            obtain ⟨x, n2⟩ := p2
            have hue2 : ue al (Except.ok (x, n2) : Except Nat ((Nat × Nat) × Nat)) = .nilIface := rfl
            have hval : cxv (Except.ok (x, n2)) = .complex .f64 x.1 x.2 := rfl
            have hgk2 : Hid (go_ (rcx bs) (c - (i + 1)) (K + n2) (acc ++ [x]) = r2) := hgk.out x n2 rfl
            have h5H2 : Hid (Rr (fun b => R b ∧ b < w.heap.size) w4 g bs (K + n2)) := h5H.out
            have hlen : Hid ((ccs acc).length + 1 ≤ 1048577) := by show _ ≤ _; have := hacc.out; rw [ccs_len]; omega
            have hcsn : Hid (ccs acc ++ [.complex .f64 x.1 x.2] = ccs (acc ++ [x])) := by simp [Hid, ccs]
            obtain ⟨us, hus⟩ : ∃ us, us = ccs acc := ⟨_, rfl⟩
            rw [← hus] at hrow4 hlen hcsn
            clear hge hgk hst hus h5H
            go_wp2_with (first | (at_builtin; refine appU _ rfl _ _ 52 54 (.complex .f64 0 0) 16 rfl Tryd.underlying52 infoC rfl us (.complex .f64 x.1 x.2) rfl w4.heap.size u11 rfl rfl (World.ownsRow.alloc hrow4.out _) (by simp) hlen.out (by decide) ?_) | fail)
            intro v' w5 ho hgr hnn
            have ho2 : Hid (OwU 54 w5 v' (ccs (acc ++ [x]))) := by rw [← hcsn.out]; exact ho
            have hnew2 : Hid (∀ b, v'.ownBlock = some b → w.heap.size ≤ b) := fun b hb => by
              rcases hnn b hb with h7 | h7
              · exact hnew.out b h7
              · have := h6H.out.size; omega
            have hfr5 : Fr (fun b => u11.ownBlock = some b) w4 w5 := ((Fr.refl _ w4).alloc _).grown hgr fun b hb => hb
            have hR5 : Hid (Rr (fun b => R b ∧ b < w.heap.size) w5 g bs (K + n2)) := h5H2.out.under hfr5 fun b _ hb hr => by
              have := hnew.out b hb; omega
            have hF5 : Hid (Fr (fun k => k = g) w w5) := h6H.out.trans hfr5 fun b hb => .inr (hnew.out b hb)
            have hacc2 : Hid ((acc ++ [x]).length = i + 1) := by show _ = _; rw [List.length_append, hacc.out]; rfl
            clear ho hgr hnn hfr5 h6H h5H2 hrow4 hnew hcsn
            go_wp2
            go_roundw
            case rel => exact ⟨i + 1, _, _, by go_num, by omega, hgk2, hacc2, ho2, hnew2, hR5, hF5⟩
            case measure => simp [intOf]; omega
        · have hlt' : decide ((i : Int) < (c : Int)) = false := decide_eq_false (by omega)
          have hr2e : r2 = .ok (acc, K) := by rw [← hgo.out, show c - i = 0 by omega]; rfl
          have hfin : Hid (rr = .ok (acc, K - k)) := by rw [hrl2.out, hr2e]; rfl
          have hKk : Hid (k ≤ K ∧ K ≤ bs.length) := ⟨by
            have h9 := go_ge (rcx bs) c (k + n) [] acc K (hr2K.out.trans hr2e)
            omega, hR.out.le⟩
          clear hgo hr2e
          go_wp2
          go_ret2
          rw [hfin.out]
          refine ⟨_, rfl, ⟨how.out, hnew.out⟩, ?_, hf.out⟩
          have e9 : k + Pk.ud (Except.ok (acc, K - k) : Except Nat (List (Nat × Nat) × Nat)) = K := by show k + (K - k) = K; have := hKk.out.1; omega
          rw [e9]; exact hback.out _ _ hR.out
    · have hm' : ¬ (c : Int) ≤ (L : Int) / 16 := by omega
      have hm2 : (L : Int) / 16 < (c : Int) := by omega
      obtain ⟨C, hC⟩ : ∃ C, L / 16 = C := ⟨_, rfl⟩
      obtain ⟨w3, hmk0, hown, hfr3⟩ := makeU w2 52 54 (.complex .f64 0 0) 16 C Tryd.underlying52 infoC (by omega) (by decide)
      have hmk : (Instr.makeSlice 52 (.int .i64 0) (.int .i64 ((L : Int) / 16))).run Tryd.prog w2 = .ok (.slice (some ⟨w2.heap.size, 0, none⟩) 0 C) w3 := by
        rw [show (L : Int) / 16 = (C : Int) by omega]; exact hmk0
      clear hmk0 hC
      have hown2 : Hid (∀ b, (Value.ownBlock (.slice (some ⟨w2.heap.size, 0, none⟩) 0 0)) = some b → w.heap.size ≤ b) := fun b hb => by
        cases hb; exact h3H.out.size
      have hR3 : Hid (Rr (fun b => R b ∧ b < w.heap.size) w3 g bs (k + n)) := h4H.out.under (hfr3.out (fun _ => False)) fun _ _ hh => hh.elim
      have hF3 : Hid (Fr (fun k => k = g) w w3) := h3H.out.then (hfr3.out _)
      clear h3H h4H hfr3
      go_wp2
      clear hmk
      go_loopw [11, 34] (fun sl si wr => ∃ (i K : Nat) (acc : List (Nat × Nat)), si = .int .i64 (i : Int) ∧ i ≤ c ∧ Hid (go_ (rcx bs) (c - i) K acc = r2) ∧ Hid (acc.length = i) ∧ Hid (OwU 54 wr sl (ccs acc)) ∧ Hid (∀ b, sl.ownBlock = some b → w.heap.size ≤ b) ∧ Hid (Rr (fun b => R b ∧ b < w.heap.size) wr g bs K) ∧ Hid (Fr (fun k => k = g) w wr)) (fun _ si _ => c - (intOf si).toNat)
      case atStart => exact ⟨0, k + n, [], rfl, Nat.zero_le _, hr2H, rfl, hown, hown2, hR3, hF3⟩
      case round =>
        clear hown hown2 hR3 hF3 hr2H
        obtain ⟨i, K, acc, rfl, hi, hgo, hacc, how, hnew, hR, hf⟩ := hrel
        by_cases hlt : i < c
        · have hlt' : (i : Int) < (c : Int) := by omega
          have hcon : Hid (Calls Tryd.prog 56 #[.pointer (some ⟨g, 0, none⟩)] wr fun e w' => e = .returned (.tuple #[cxv (rcx bs K), ue al (rcx bs K)]) ∧ Rr (fun b => R b ∧ b < w.heap.size) w' g bs (K + Pk.ud (rcx bs K)) ∧ Fr (fun k => k = g) wr w') := rcomplex_c (fun b => R b ∧ b < w.heap.size) g K bs al wr hR.out (heH.out wr hf.out)
          have hge : Hid (∀ e, rcx bs K = .error e → r2 = .error e) := fun e hh => by rw [← hgo.out]; exact go_err hh (by omega)
          have hgk : Hid (∀ x n, rcx bs K = .ok (x, n) → go_ (rcx bs) (c - (i + 1)) (K + n) (acc ++ [x]) = r2) := fun x n hh => by
            have h5 := go_ok (acc := acc) hh (show 0 < c - i by omega)
            rw [← hgo.out, h5]; rfl
          clear hgo
          generalize rcx bs K = re at hcon hge hgk
          go_wp2_with fail
          refine hcon.out.mono ?_
          rintro e w4 ⟨rfl, h5, h6⟩
          have h6H : Hid (Fr (fun k => k = g) w w4) := hf.out.then h6
          have hrow4 : Hid (OwU 54 w4 u11 (ccs acc)) := Fr.owns h6 how.out fun b hb hbg => by
            have h7 := hnew.out b hb
            have h8 := hgl.out
            have h9 : b = g := hbg
            omega
          have h5H : Hid (Rr (fun b => R b ∧ b < w.heap.size) w4 g bs (K + Pk.ud re)) := h5
          obtain ⟨⟨u, hcu⟩, hfz, hst⟩ := hc1'.out w4 h6H.out _ h5
          clear h5 h6 how hcon hR hf
          cases re with
          | error c2 =>
            have hq := nnil_c al c2
            have hgd := guard_c al c2
            have hue2 : ue al (Except.error c2 : Except Nat ((Nat × Nat) × Nat)) = ek al c2 := rfl
            have hfin : Hid (rr = .error c2) := by rw [hrl2.out, hge.out c2 rfl]; rfl
            clear hge hgk hrl2
            go_wp2
            go_ret2
            rw [hfin.out]
            exact ⟨_, rfl, newU_nil _ _ _, hst.out, Fr.setCell (S := fun k => k = g) (p := ⟨g, 1, none⟩) h6H.out rfl _⟩
          | ok p2 =>
            obtain ⟨x, n2⟩ := p2
            have hue2 : ue al (Except.ok (x, n2) : Except Nat ((Nat × Nat) × Nat)) = .nilIface := rfl
            have hval : cxv (Except.ok (x, n2)) = .complex .f64 x.1 x.2 := rfl
            have hgk2 : Hid (go_ (rcx bs) (c - (i + 1)) (K + n2) (acc ++ [x]) = r2) := hgk.out x n2 rfl
            have h5H2 : Hid (Rr (fun b => R b ∧ b < w.heap.size) w4 g bs (K + n2)) := h5H.out
            have hlen : Hid ((ccs acc).length + 1 ≤ 1048577) := by show _ ≤ _; have := hacc.out; rw [ccs_len]; omega
            have hcsn : Hid (ccs acc ++ [.complex .f64 x.1 x.2] = ccs (acc ++ [x])) := by simp [Hid, ccs]
            obtain ⟨us, hus⟩ : ∃ us, us = ccs acc := ⟨_, rfl⟩
            rw [← hus] at hrow4 hlen hcsn
            clear hge hgk hst hus h5H
            go_wp2_with (first | (at_builtin; refine appU _ rfl _ _ 52 54 (.complex .f64 0 0) 16 rfl Tryd.underlying52 infoC rfl us (.complex .f64 x.1 x.2) rfl w4.heap.size u11 rfl rfl (World.ownsRow.alloc hrow4.out _) (by simp) hlen.out (by decide) ?_) | fail)
            intro v' w5 ho hgr hnn
            have ho2 : Hid (OwU 54 w5 v' (ccs (acc ++ [x]))) := by rw [← hcsn.out]; exact ho
            have hnew2 : Hid (∀ b, v'.ownBlock = some b → w.heap.size ≤ b) := fun b hb => by
              rcases hnn b hb with h7 | h7
              · exact hnew.out b h7
              · have := h6H.out.size; omega
            have hfr5 : Fr (fun b => u11.ownBlock = some b) w4 w5 := ((Fr.refl _ w4).alloc _).grown hgr fun b hb => hb
            have hR5 : Hid (Rr (fun b => R b ∧ b < w.heap.size) w5 g bs (K + n2)) := h5H2.out.under hfr5 fun b _ hb hr => by
              have := hnew.out b hb; omega
            have hF5 : Hid (Fr (fun k => k = g) w w5) := h6H.out.trans hfr5 fun b hb => .inr (hnew.out b hb)
            have hacc2 : Hid ((acc ++ [x]).length = i + 1) := by show _ = _; rw [List.length_append, hacc.out]; rfl
            clear ho hgr hnn hfr5 h6H h5H2 hrow4 hnew hcsn
            go_wp2
            go_roundw
            case rel => exact ⟨i + 1, _, _, by go_num, by omega, hgk2, hacc2, ho2, hnew2, hR5, hF5⟩
            case measure => simp [intOf]; omega
        · have hlt' : decide ((i : Int) < (c : Int)) = false := decide_eq_false (by omega)
          have hr2e : r2 = .ok (acc, K) := by rw [← hgo.out, show c - i = 0 by omega]; rfl
          have hfin : Hid (rr = .ok (acc, K - k)) := by rw [hrl2.out, hr2e]; rfl
          have hKk : Hid (k ≤ K ∧ K ≤ bs.length) := ⟨by
            have h9 := go_ge (rcx bs) c (k + n) [] acc K (hr2K.out.trans hr2e)
            omega, hR.out.le⟩
          clear hgo hr2e
          go_wp2
          go_ret2
          rw [hfin.out]
          refine ⟨_, rfl, ⟨how.out, hnew.out⟩, ?_, hf.out⟩
          have e9 : k + Pk.ud (Except.ok (acc, K - k) : Except Nat (List (Nat × Nat) × Nat)) = K := by show k + (K - k) = K; have := hKk.out.1; omega
          rw [e9]; exact hback.out _ _ hR.out
set_option maxHeartbeats 1000000 in
theorem rfloats_c (R : Nat → Prop) (g k : Nat) (bs : List Nat) (al : List Addr) (w : World) (h : Rr R w g bs k) (he : E5 w al) (hg : ¬ g < 5) :
    Calls Tryd.prog 64 #[.pointer (some ⟨g, 0, none⟩)] w fun e w' => ∃ v', e = .returned (.tuple #[v', ue al (rli (rfl_ bs) bs k)]) ∧ NewU 61 w w' v' (fcs (lx (rli (rfl_ bs) bs k))) ∧ Rr R w' g bs (k + Pk.ud (rli (rfl_ bs) bs k)) ∧ Fr (fun k => k = g) w w' := by
  have hc := rlf_c R g k bs al w h he hg
  clear h he
  generalize rli (rfl_ bs) bs k = rr at hc ⊢
  go_enter Tryd.func64, Tryd.ntmps64
  go_wp2_with fail
  refine hc.mono ?_
  rintro e w1 ⟨v1, rfl, h1, h2, h3⟩
  have h1H : Hid (NewU 61 w w1 v1 (fcs (lx rr))) := h1
  have h2H : Hid (Rr R w1 g bs (k + Pk.ud rr)) := h2
  have h3H : Hid (Fr (fun k => k = g) w w1) := h3
  clear h1 h2 h3 hc
  go_wp2
  go_ret2
  exact ⟨_, rfl, h1H.out, h2H.out, h3H.out⟩
set_option maxHeartbeats 1000000 in
theorem rlist_c (R : Nat → Prop) (g k : Nat) (bs : List Nat) (al : List Addr) (w : World) (h : Rr R w g bs k) (he : E5 w al) (hg : ¬ g < 5) :
    Calls Tryd.prog 25 #[.pointer (some ⟨g, 0, none⟩)] w fun e w' => ∃ v', e = .returned (.tuple #[v', ue al (rli (rcx bs) bs k)]) ∧ NewU 54 w w' v' (ccs (lx (rli (rcx bs) bs k))) ∧ Rr R w' g bs (k + Pk.ud (rli (rcx bs) bs k)) ∧ Fr (fun k => k = g) w w' := by
  have hc := rlc_c R g k bs al w h he hg
  clear h he
  generalize rli (rcx bs) bs k = rr at hc ⊢
  go_enter Tryd.func25, Tryd.ntmps25
  go_wp2_with fail
  refine hc.mono ?_
  rintro e w1 ⟨v1, rfl, h1, h2, h3⟩
  have h1H : Hid (NewU 54 w w1 v1 (ccs (lx rr))) := h1
  have h2H : Hid (Rr R w1 g bs (k + Pk.ud rr)) := h2
  have h3H : Hid (Fr (fun k => k = g) w w1) := h3
  clear h1 h2 h3 hc
  go_wp2
  go_ret2
  exact ⟨_, rfl, h1H.out, h2H.out, h3H.out⟩
end Go.Proofs.YtjckgcjcpmnhhaaDoor
