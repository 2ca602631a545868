/-
  Package pack: append(.., b...) of whatever b; the statement PackOneForm, what holds where the ways meet.
-/
import Derived.Test.YtjckgcjcpmnhhaaDoorPkl
import Derived.Test.YtjckgcjcpmnhhaaDoorPkf
import Derived.Deep.AppendSrc
namespace Go.Proofs.YtjckgcjcpmnhhaaDoor
open Flo Go.RowKit
theorem appX {ops : Array Oper} {rest : List Oper} {o : Oper} {a : Act} {Q : Exit → Act → World → Prop} (w : World) (hgd : o.guard = none) (sl x : Operand)
    (ho : o.op = .call { callee := .builtin .append, args := #[sl, x], argTypes := #[26, 26] })
    (ys zs : List Nat) (v2 : Value) (g n cap : Nat) (hs : a.eval sl = .slice (some ⟨g, 0, none⟩) n cap) (hx : a.eval x = v2) (hrow : OwB w (.slice (some ⟨g, 0, none⟩) n cap) ys) (hsrc : SrcB w v2 zs) (hk : ys.length + zs.length ≤ 140737488355328)
    (h : ∀ v' w', OwB w' v' (ys ++ zs) → w.grownBy w' (some g) → (∀ b, v'.ownBlock = some b → some g = some b ∨ w.heap.size ≤ b) → wpList Tryd.prog ops Q rest (a.put o.dst v') w') : wpList Tryd.prog ops Q (o :: rest) a w := by
  rcases hsrc with ⟨rfl, rfl⟩ | ⟨ad, c, rfl, hc⟩
  · obtain ⟨i0, hi0, hz0, hz1, hz2⟩ := info_parts infoB
    have hrow2 : w.ownsRow 0 5 1 (.slice (some ⟨g, 0, none⟩) n cap) ys.length (bc ys) := hrow
    have hn : n ≤ cap := by
      rcases hrow2.2 with ⟨h1, _⟩ | ⟨g', cap', cur, h1, h2, h3, h4, h5⟩
      · cases h1
      · injection h1 with h6 h7 h8; omega
    have hr := run_append_room_src (P := Tryd.prog) (w := w) 26 26 o.type 5 i0 Tryd.underlying26 hi0 g 0 n cap (.slice none 0 0) 0 [] (Src.ofNil w Tryd.underlying26 0) (by omega) (fun j hj => by cases hj) (fun j hj => by cases hj)
    have hw : w.setCells g (0 + n * i0.size) [] = w := rfl
    rw [hw, Nat.add_zero] at hr
    refine wpList_plain hgd fun _ hK => ?_
    unfold Oper.wp execOp
    simp only [ho, resolve, invoke, builtin, Sem.run_bind, Sem.run_pure, Result.andThen_ok, List.map_toArray, List.map_cons, List.map_nil, hs, hx, hr]
    exact hK _ _ (h _ _ (by rw [List.append_nil]; exact hrow) (gb_refl _ _) fun b hb => .inl hb)
  · exact appV w hgd sl x ho ys zs _ ad zs.length c hs hx hrow rfl hc hk h
theorem piece_srcO {w : World} {q o K c cap : Nat} {bs : List Nat} (h : ∀ i, i < bs.length → w.cell? ⟨q, o + i, none⟩ = some (.int .u8 (bs.getD i 0 : Nat))) (hK : K + c ≤ bs.length) : SrcB w (.slice (some ⟨q, o + K, none⟩) c cap) ((bs.drop K).take c) := by
  have hl : ((bs.drop K).take c).length = c := by rw [List.length_take, List.length_drop]; omega
  refine .inr ⟨_, cap, by rw [hl], fun j u hj => ?_⟩
  have hj2 : j < c := by
    have := (List.getElem?_eq_some_iff.1 hj).1
    rw [bc_len, hl] at this; exact this
  have e : (bc ((bs.drop K).take c))[j]? = some (.int .u8 (bs.getD (K + j) 0 : Nat)) := by
    simp [bc, hj2, List.getD, show K + j < bs.length by omega]
  rw [e] at hj
  cases hj
  rw [← h (K + j) (by omega)]
  congr 1
  unfold Addr.add
  by_cases h0 : j = 0
  · subst h0; simp
  · simp [h0, Nat.add_assoc]
/-- nothing is asked of a world -/
def Tt (_ : World) : Prop := True
theorem tt (w : World) : Tt w := trivial
theorem qtN (w : World) : ∀ n, Qt w (w.drewN n)
  | 0 => Qt.refl w
  | n + 1 => (qtN w n).trans (Qt.drew _)
/-- a slice of bytes that came in -/
structure InB (w : World) (v : Value) (bs : List Nat) : Prop where
  src : SrcB w v bs
  some_ : bs ≠ [] → ∃ q o cap, v = .slice (some ⟨q, o, none⟩) bs.length cap ∧ bs.length ≤ cap ∧ q < w.heap.size ∧ ∀ i, i < bs.length → w.cell? ⟨q, o + i, none⟩ = some (.int .u8 (bs.getD i 0 : Nat))
  byt : ∀ b ∈ bs, b < 256
  big : bs.length ≤ 140737488351232
theorem SrcB.slice {w : World} {v : Value} {ys : List Nat} (h : SrcB w v ys) : ∃ n ao cap, v = .slice ao n cap ∧ Hid (n = ys.length) := by
  rcases h with ⟨rfl, rfl⟩ | ⟨a, cap, rfl, _⟩
  · exact ⟨_, _, _, rfl, rfl⟩
  · exact ⟨_, _, _, rfl, rfl⟩
theorem SrcB.below {w w' : World} {v : Value} {ys : List Nat} (h : SrcB w v ys) (hb : Below w.heap.size w w') : SrcB w' v ys := by
  rcases h with h | ⟨a, cap, rfl, h⟩
  · exact .inl h
  · exact .inr ⟨a, cap, rfl, fun j u hj => (hb.cell (World.block_lt_of_cell? w _ (h j u hj))).trans (h j u hj)⟩
theorem InB.below {w w' : World} {v : Value} {bs : List Nat} (h : InB w v bs) (hb : Below w.heap.size w w') : InB w' v bs :=
  ⟨h.src.below hb, fun hne => by
    obtain ⟨q, o, cap, h1, h2, h3, h4⟩ := h.some_ hne
    exact ⟨q, o, cap, h1, h2, Nat.lt_of_lt_of_le h3 hb.size, fun i hi => (hb.cell (p := ⟨q, o + i, none⟩) h3).trans (h4 i hi)⟩, h.byt, h.big⟩
/-- a slice of ints that came in -/
def InI (w : World) (v : Value) (zs : List Int) : Prop :=
  ∃ ao cap, v = .slice ao zs.length cap ∧ (zs ≠ [] → ∃ b off, ao = some ⟨b, off, none⟩ ∧ b < w.heap.size ∧ ∀ i, i < zs.length → w.cell? ⟨b, off + i, none⟩ = some (.int .i64 (zs.getD i 0)))
/-- where the ways meet: what was read, and what was written of it -/
structure Jn (al : List Addr) (bs : List Nat) (K B r g : Nat) (Rs : Nat → Prop) (w : World) (e : Value) (wx : World) (K' : Nat) (ys : List Nat) : Prop where
  rd : Rr Rs wx r bs K'
  wr : Wr (fun k => g ≤ k) wx g ys
  ok : (e = .nilIface ∧ K < K' ∧ ys = (bs.drop K).take (K' - K)) ∨ ∃ c, e = ek al c ∧ K' = K
  bel : Below B w wx
  siz : g < wx.heap.size
section
variable {al : List Addr} {bs : List Nat} {K B r g K' : Nat} {Rs F : Nat → Prop} {w w6 w7 : World} {e : Value} {ys : List Nat}
theorem Jn.mk' (hR6 : Rr Rs w6 r bs K') (h3 : Wr F w7 g ([] ++ ys)) (h4 : Fr F w6 w7) (hF : ∀ k, F k → g ≤ k) (hRs : ∀ k, Rs k → k < g) (hB6 : Below B w w6) (hBg : B ≤ g) (hg6 : g < w6.heap.size)
    (ok : (e = .nilIface ∧ K < K' ∧ ys = (bs.drop K).take (K' - K)) ∨ ∃ c, e = ek al c ∧ K' = K) : Jn al bs K B r g Rs w e w7 K' ys :=
  ⟨hR6.under h4 fun k _ hk hr => by have := hF k hk; have := hRs k hr; omega, by rw [List.nil_append] at h3; exact h3.to fun k _ hk => hF k hk, ok,
   h4.below hB6 (by omega) fun k _ hk => by have := hF k hk; omega, Nat.lt_of_lt_of_le hg6 h4.size⟩
/-- what is told of a read that may be refused -/
theorem ok_of {α : Type} {rr : Except Nat (α × Nat)} (h : ∀ x n, rr = .ok (x, n) → 0 < n ∧ ys = (bs.drop K).take n) : (ue al rr = .nilIface ∧ K < K + Pk.ud rr ∧ ys = (bs.drop K).take (K + Pk.ud rr - K)) ∨ ∃ c, ue al rr = ek al c ∧ K + Pk.ud rr = K := by
  cases rr with
  | error c => exact .inr ⟨c, rfl, rfl⟩
  | ok p =>
    obtain ⟨x, n⟩ := p
    obtain ⟨h1, h2⟩ := h x n rfl
    refine .inl ⟨rfl, ?_, ?_⟩
    · show K < K + n; omega
    · show ys = (bs.drop K).take (K + n - K)
      rw [Nat.add_sub_cancel_left]; exact h2
end
theorem rfl_lt {bs : List Nat} (hb : ∀ b ∈ bs, b < 256) (K : Nat) : Pk.ux (rfl_ bs K) < 18446744073709551616 := by
  cases h : rfl_ bs K with
  | error c => exact (by decide : 0 < 18446744073709551616)
  | ok p => obtain ⟨x, n⟩ := p; exact (of_float hb h).2.2.2.1
theorem cx_val {bs : List Nat} (hb : ∀ b ∈ bs, b < 256) (K : Nat) : ∃ a b, cxv (rcx bs K) = .complex .f64 a b ∧ a < 18446744073709551616 ∧ b < 18446744073709551616 ∧ ∀ x n, rcx bs K = .ok (x, n) → a = x.1 ∧ b = x.2 := by
  cases h : rcx bs K with
  | error c => exact ⟨0, 0, rfl, by decide, by decide, fun x n hh => by cases hh⟩
  | ok p =>
    obtain ⟨x, n⟩ := p
    obtain ⟨_, _, _, h1, h2, _⟩ := of_complex hb h
    exact ⟨x.1, x.2, rfl, h1, h2, fun y m hh => by cases hh; exact ⟨rfl, rfl⟩⟩
theorem nw_val {bs : List Nat} (hb : ∀ b ∈ bs, b < 256) (K : Nat) : ∃ a b, nwv (rnw bs K) = .complex .f32 a b ∧ a < 4294967296 ∧ b < 4294967296 ∧ ∀ x n, rnw bs K = .ok (x, n) → a = x.1 ∧ b = x.2 := by
  cases h : rnw bs K with
  | error c => exact ⟨0, 0, rfl, by decide, by decide, fun x n hh => by cases hh⟩
  | ok p =>
    obtain ⟨x, n⟩ := p
    obtain ⟨_, _, _, h1, h2⟩ := of_narrow hb h
    exact ⟨x.1, x.2, rfl, h1, h2, fun y m hh => by cases hh; exact ⟨rfl, rfl⟩⟩
theorem tx_size {bs : List Nat} (hb : ∀ b ∈ bs, b < 256) {K : Nat} (hK : K ≤ bs.length) (most : Int) (hm : 0 ≤ most) : ((mkS (lx (rtx most bs K))).size : Int) ≤ most := by
  cases h : rtx most bs K with
  | error c => exact hm
  | ok p => obtain ⟨l, n⟩ := p; exact (of_text hb hK h).2.2.2
theorem fl_val {bs : List Nat} (hb : ∀ b ∈ bs, b < 256) {K : Nat} (hK : K ≤ bs.length) : (lx (rli (rfl_ bs) bs K)).length ≤ 1048576 ∧ ∀ z ∈ lx (rli (rfl_ bs) bs K), z < 18446744073709551616 := by
  cases h : rli (rfl_ bs) bs K with
  | error c => exact ⟨Nat.zero_le _, fun z hz => by cases hz⟩
  | ok p => obtain ⟨l, n⟩ := p; exact (of_floats hb hK h).2.2.2
theorem cl_val {bs : List Nat} (hb : ∀ b ∈ bs, b < 256) {K : Nat} (hK : K ≤ bs.length) : (lx (rli (rcx bs) bs K)).length ≤ 1048576 ∧ ∀ z ∈ lx (rli (rcx bs) bs K), z.1 < 18446744073709551616 ∧ z.2 < 18446744073709551616 := by
  cases h : rli (rcx bs) bs K with
  | error c => exact ⟨Nat.zero_le _, fun z hz => by cases hz⟩
  | ok p => obtain ⟨l, n⟩ := p; exact (of_list hb hK h).2.2.2
/-- a new row is a source -/
theorem NewU.srcL {t : TypeId} {w w' : World} {v : Value} {us : List Value} (h : NewU t w w' v us) {F : Nat → Prop} (hF : ∀ k, F k → k < w.heap.size ∨ w'.heap.size ≤ k) : SrcL F w' v us := by
  have hh : w'.ownsRow 0 t 1 v us.length us := h.own
  rcases hh.2 with ⟨rfl, h1⟩ | ⟨q, cap, cur, rfl, hbg, hg, hnc, hcm, hcs, htake⟩
  · exact ⟨none, 0, by rw [h1], .inl (List.eq_nil_of_length_eq_zero h1)⟩
  · refine ⟨_, cap, rfl, .inr ⟨q, 0, rfl, fun hf => ?_, fun i hi => ?_⟩⟩
    · have h1 := h.new q rfl
      have h2 := (World.ownsRow.lt hh q rfl).2
      rcases hF q hf with h3 | h3 <;> omega
    · have h1 := hh.cellAt i (by omega)
      rw [Nat.zero_add, h1]
      simp [List.getD, hi]
end Go.Proofs.YtjckgcjcpmnhhaaDoor
