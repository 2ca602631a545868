/-
  append onto a row of one's own, as one step of a region that draws its order.
-/
import Derived.Test.YtlbnldbelfgokaaDoorProg
import Derived.Test.YtlbnldbelfgokaaDoorWrd
import Derived.Deep.RegionLaw
import Derived.Laws.CopyOwn
import Derived.OwnWalk
import Derived.Test.YtlbnldbelfgokaaDoorLj0
import Derived.Test.YtlbnldbelfgokaaDoorLrr
namespace Go.Proofs.YtlbnldbelfgokaaDoor
open Flo Go.RowKit
theorem step_app {P : Program} {ops : Array Oper} {o : Oper} {a : Act} {w : World} {K : Act → World → Prop} {Q : Exit → Act → World → Prop} {E : Prop}
    (hg : o.guard = none) (s x : Operand) (t : TypeId) (hop : o.op = Op.call { callee := Callee.builtin Builtin.append, args := #[s, x], argTypes := #[t, t] })
    (base : Nat) (e : TypeId) (i : TypeInfo) (z : Value) (size bytes : Nat) (h1 : P.underlying t = some (.slice e)) (h2 : P.info? e = some i) (h3 : i.zero = some z) (h4 : i.size = size) (h5 : i.bytes = bytes) (h6 : z.cells.size = size) (h7 : 0 < size)
    (v : Value) (n : Nat) (xs : List Value) (hs : a.eval s = v) (hown : w.ownsRow base e size v n xs)
    (ad : Addr) (m c : Nat) (news : List Value) (hx : a.eval x = .slice (some ad) m c) (hn : news.length = m * size) (hc : ∀ j u, news[j]? = some u → w.cell? (ad.add j) = some u) (h1c : ∀ u ∈ news, u.oneCell' = true)
    (b1 : n + m ≤ maxLen) (b2 : (n + m) * bytes ≤ 140737488355328) (hb : base ≤ w.heap.size)
    (hK : ∀ v' w', w'.ownsRow base e size v' (n + m) (xs ++ news) → w.grownBy w' v.ownBlock → K (a.put o.dst v') w') :
    if Region.wanted o (yielded ops a.tmps) = true then Oper.wp P o a w K Q else E := by
  have hw : Region.wanted o (yielded ops a.tmps) = true := by simp [Region.wanted, hg]
  rw [if_pos hw]
  obtain ⟨v', w', hrun, r1, r2, _⟩ := run_append_own (P := P) w base t o.type e i z size bytes h1 h2 h3 h4 h5 h6 h7 v n xs hown ad m c news hn hc h1c b1 b2 hb
  unfold Oper.wp
  simp [execOp, hop, resolve, invoke, builtin, hs, hx, hrun, Result.andThen]
  exact hK v' w' r1 r2
end Go.Proofs.YtlbnldbelfgokaaDoor
namespace Go.Proofs.YtlbnldbelfgokaaDoor
open Flo Go.RowKit
theorem step_app2 {P : Program} {ops : Array Oper} {o : Oper} {a : Act} {w : World} {K : Act → World → Prop} {Q : Exit → Act → World → Prop} {E : Prop}
    (hg : o.guard = none) (s x : Operand) (t : TypeId) (hop : o.op = Op.call { callee := Callee.builtin Builtin.append, args := #[s, x], argTypes := #[t, t] })
    (base : Nat) (e : TypeId) (i : TypeInfo) (z : Value) (size bytes : Nat) (h1 : P.underlying t = some (.slice e)) (h2 : P.info? e = some i) (h3 : i.zero = some z) (h4 : i.size = size) (h5 : i.bytes = bytes) (h6 : z.cells.size = size) (h7 : 0 < size)
    (v : Value) (n : Nat) (xs : List Value) (hs : a.eval s = v) (hown : w.ownsRow base e size v n xs)
    (ad : Addr) (m c : Nat) (news : List Value) (hx : a.eval x = .slice (some ad) m c) (hn : news.length = m * size) (hc : ∀ j u, news[j]? = some u → w.cell? (ad.add j) = some u) (h1c : ∀ u ∈ news, u.oneCell' = true)
    (b1 : n + m ≤ maxLen) (b2 : (n + m) * bytes ≤ 140737488355328) (hb : base ≤ w.heap.size)
    (hK : ∀ v' w', w'.ownsRow base e size v' (n + m) (xs ++ news) → w.grownBy w' v.ownBlock → (v' = .slice none 0 0 ↔ v = .slice none 0 0 ∧ m = 0) → K (a.put o.dst v') w') :
    if Region.wanted o (yielded ops a.tmps) = true then Oper.wp P o a w K Q else E := by
  have hw : Region.wanted o (yielded ops a.tmps) = true := by simp [Region.wanted, hg]
  rw [if_pos hw]
  obtain ⟨v', w', hrun, r1, r2, r3⟩ := run_append_own (P := P) w base t o.type e i z size bytes h1 h2 h3 h4 h5 h6 h7 v n xs hown ad m c news hn hc h1c b1 b2 hb
  unfold Oper.wp
  simp [execOp, hop, resolve, invoke, builtin, hs, hx, hrun, Result.andThen]
  exact hK v' w' r1 r2 r3
end Go.Proofs.YtlbnldbelfgokaaDoor
/-
  Rows of texts of one's own; pieces of a text. 
-/
namespace Go.Proofs.YtlbnldbelfgokaaDoor
open Flo Go.RowKit
/-- a byte of a text -/
theorem txi (l : List UInt8) (i : Nat) (hi : i < l.length) (w : World) : (Instr.index 9 (.string (txb l)) (.int .i64 (i : Int))).run Tryd.prog w = .ok (.int .u8 ((l.getD i 0).toNat : Int)) w := by
  have hs : (i : Int) < (txb l).size := by show (i : Int) < (l.length : Int); omega
  rw [run_index_string w 9 (txb l) .i64 (i : Int) Tryd.underlying9, dif_pos ⟨by omega, hs⟩]
  congr 3
  simp [txb, List.getD, hi]
  rfl
def tcs (ws : List (List UInt8)) : List Value := ws.map fun u => Value.string (txb u)
theorem tcs_len (ws : List (List UInt8)) : (tcs ws).length = ws.length := by simp [tcs]
theorem tcs_snoc (ws : List (List UInt8)) (u : List UInt8) : tcs (ws ++ [u]) = tcs ws ++ [.string (txb u)] := by simp [tcs]
theorem tcs_one (ws : List (List UInt8)) : ∀ u ∈ tcs ws, u.oneCell' = true := by
  intro u hu
  simp only [tcs, List.mem_map] at hu
  obtain ⟨x, _, rfl⟩ := hu; rfl
/-- a row of texts of one's own -/
def OwT (w : World) (B : Nat) (v : Value) (ws : List (List UInt8)) : Prop := w.ownsRow B 9 1 v ws.length (tcs ws)
theorem OwT.fr {S : Nat → Prop} {w w' : World} {B : Nat} {v : Value} {ws : List (List UInt8)} (h : OwT w B v ws) (hf : Fr S w w') (hS : ∀ b, v.ownBlock = some b → ¬ S b) : OwT w' B v ws := Fr.owns hf h hS
theorem OwT.call {w w' : World} {B : Nat} {v : Value} {ws : List (List UInt8)} (h : OwT w B v ws) (hb : Below w.heap.size w w') : OwT w' B v ws := OwT.fr h (Fr.bel hb) fun _ _ => id
theorem OwT.lt {w : World} {B : Nat} {v : Value} {ws : List (List UInt8)} (h : OwT w B v ws) : ∀ b, v.ownBlock = some b → B ≤ b ∧ b < w.heap.size := fun b hb => World.ownsRow.lt (show w.ownsRow B 9 1 v ws.length (tcs ws) from h) b hb
/-- its cells -/
def Tx (w : World) (v : Value) (ws : List (List UInt8)) : Prop := ∃ ao cap, v = .slice ao ws.length cap ∧ (ao = none → cap = 0) ∧ ws.length ≤ cap ∧ ∀ (i : Nat) (u : List UInt8), ws[i]? = some u → ∃ b, ao = some ⟨b, 0, none⟩ ∧ w.cell? ⟨b, i, none⟩ = some (.string (txb u))
theorem OwT.tx {w : World} {B : Nat} {v : Value} {ws : List (List UInt8)} (h : OwT w B v ws) : Tx w v ws := by
  have hh : w.ownsRow B 9 1 v ws.length (tcs ws) := h
  rcases hh.2 with ⟨rfl, h1⟩ | ⟨g, cap, cur, rfl, _, _, h4, _⟩
  · exact ⟨none, 0, by rw [h1], fun _ => rfl, by omega, fun i u hi => by rw [List.eq_nil_of_length_eq_zero h1] at hi; simp at hi⟩
  · refine ⟨some ⟨g, 0, none⟩, cap, rfl, (fun e => by cases e), h4, fun i u hi => ⟨g, rfl, ?_⟩⟩
    have hlt : i < ws.length := (List.getElem?_eq_some_iff.1 hi).1
    rw [hh.cellAt i (by omega)]
    simp [tcs, hi]
theorem Tx.below {w w' : World} {v : Value} {ws : List (List UInt8)} (h : Tx w v ws) (hb : Below w.heap.size w w') : Tx w' v ws := by
  obtain ⟨ao, cap, h1, h2, h3, h4⟩ := h
  refine ⟨ao, cap, h1, h2, h3, fun i u hi => ?_⟩
  obtain ⟨b, e1, e2⟩ := h4 i u hi
  exact ⟨b, e1, (hb.cell (p := ⟨b, i, none⟩) (cell_lt e2)).trans e2⟩
theorem infoTx : (Tryd.prog.info? 9).map (fun i => (i.zero, i.size, i.bytes)) = some (some (.string ⟨#[]⟩), 1, 16) := by kernel_rfl
theorem appT {ops : Array Oper} {rest : List Oper} {o : Oper} {a : Act} {Q : Exit → Act → World → Prop} (w : World) (hgd : o.guard = none) (sl x : Operand)
    (ho : o.op = .call { callee := .builtin .append, args := #[sl, x], argTypes := #[45, 45] })
    (B : Nat) (ws : List (List UInt8)) (u : List UInt8) (q : Nat) (v : Value) (hs : a.eval sl = v) (hx : a.eval x = .slice (some ⟨q, 0, none⟩) 1 1) (hrow : OwT w B v ws)
    (hcell : w.cell? ⟨q, 0, none⟩ = some (.string (txb u))) (hk : (ws.length + 1) * 16 ≤ 140737488355328) (hB : B ≤ w.heap.size)
    (h : ∀ v' w', OwT w' B v' (ws ++ [u]) → w.grownBy w' v.ownBlock → wpList Tryd.prog ops Q rest (a.put o.dst v') w') : wpList Tryd.prog ops Q (o :: rest) a w := by
  obtain ⟨i0, hi0, hz0, hz1, hz2⟩ := info_parts infoTx
  refine wpList_append_fr w hgd sl x 45 ho B 9 i0 _ 1 16 Tryd.underlying45 hi0 hz0 hz1 hz2 rfl (by decide) v ws.length _ hs hrow ⟨q, 0, none⟩ 1 1 [.string (txb u)] hx rfl ?_ ?_ ?_ ?_ hB ?_
  · intro j y hj
    match j, hj with
    | 0, hj => simp at hj; subst hj; simpa [Addr.add] using hcell
  · intro y hy; simp at hy; subst hy; rfl
  · unfold maxLen; omega
  · omega
  · intro v' w1 hown' hgrow _
    refine h v' w1 ?_ hgrow
    unfold OwT
    rw [tcs_snoc, List.length_append]
    exact hown'
/-- how far a text is cut: the pieces, where the next one begins, how far it is known -/
def CP (c : UInt8) (l : List UInt8) (i : Nat) (fr : Nat) (ws : List (List UInt8)) : Prop :=
  fr ≤ i ∧ i ≤ l.length ∧ ws.length ≤ i ∧ Li.sp c l = ws ++ Li.sp c (l.drop fr) ∧ c ∉ (l.drop fr).take (i - fr)
theorem CP.start (c : UInt8) (l : List UInt8) : CP c l 0 0 [] := ⟨Nat.le_refl _, Nat.zero_le _, Nat.zero_le _, by simp, by simp⟩
theorem drop_at8 (l : List UInt8) (i : Nat) (hi : i < l.length) : l.drop i = l.getD i 0 :: l.drop (i + 1) := by
  rw [List.drop_eq_getElem_cons hi]; simp [List.getD, hi]
theorem CP.go {c : UInt8} {l : List UInt8} {i fr : Nat} {ws : List (List UInt8)} (h : CP c l i fr ws) (hi : i < l.length) (hc : l.getD i 0 ≠ c) : CP c l (i + 1) fr ws := by
  obtain ⟨h1, h2, h3, h4, h5⟩ := h
  refine ⟨by omega, hi, by omega, h4, ?_⟩
  rw [show i + 1 - fr = (i - fr) + 1 by omega, List.take_add_one, List.getElem?_drop, show fr + (i - fr) = i by omega, List.getElem?_eq_getElem hi, List.mem_append]
  rintro (h | h)
  · exact h5 h
  · simp at h
    exact hc (by simp [List.getD, hi, h])
theorem CP.cut {c : UInt8} {l : List UInt8} {i fr : Nat} {ws : List (List UInt8)} (h : CP c l i fr ws) (hi : i < l.length) (hc : l.getD i 0 = c) : CP c l (i + 1) (i + 1) (ws ++ [(l.drop fr).take (i - fr)]) := by
  obtain ⟨h1, h2, h3, h4, h5⟩ := h
  refine ⟨Nat.le_refl _, hi, by simp; omega, ?_, by simp⟩
  rw [h4]
  have e : l.drop fr = (l.drop fr).take (i - fr) ++ Li.jn c [] ++ l.drop i := by
    have h9 := List.take_append_drop (i - fr) (l.drop fr)
    rw [List.drop_drop, show fr + (i - fr) = i by omega] at h9
    simp [Li.jn, h9]
  obtain ⟨w1, ws1, g1, g2, g3, g4⟩ := Li.sp_parts c (l.drop (i + 1))
  have e2 : l.drop fr = (l.drop fr).take (i - fr) ++ Li.jn c (w1 :: ws1) := by
    rw [Li.jn_cons, ← g2, ← hc, ← drop_at8 l i hi]
    have h9 := List.take_append_drop (i - fr) (l.drop fr)
    rw [List.drop_drop, show fr + (i - fr) = i by omega] at h9
    exact h9.symm
  rw [g1, List.append_assoc]
  congr 1
  have h9 := Li.sp_join (c := c) ((l.drop fr).take (i - fr)) (w1 :: ws1) h5 (by
    intro v hv
    rcases List.mem_cons.1 hv with rfl | hv
    · exact g3
    · exact g4 v hv)
  rw [← e2] at h9
  exact h9
theorem CP.done {c : UInt8} {l : List UInt8} {fr : Nat} {ws : List (List UInt8)} (h : CP c l l.length fr ws) : Li.sp c l = ws ++ [(l.drop fr).take (l.length - fr)] := by
  obtain ⟨h1, h2, h3, h4, h5⟩ := h
  rw [h4]
  congr 1
  have h9 := Li.sp_join (c := c) ((l.drop fr).take (l.length - fr)) [] h5 (by simp)
  have e : (l.drop fr).take (l.length - fr) ++ Li.jn c [] = l.drop fr := by
    rw [show Li.jn c [] = [] from rfl, List.append_nil, List.take_of_length_le (by simp)]
  rw [e] at h9
  exact h9
end Go.Proofs.YtlbnldbelfgokaaDoor
/-
  timbreref16: read, cut.
-/
namespace Go.Proofs.YtlbnldbelfgokaaDoor
open Flo Go.RowKit
/-- what read tells: is the text a number, and which -/
def DrE (l : List UInt8) (w : World) (e : Ending) (w' : World) : Prop :=
  Below w.heap.size w w' ∧ ∃ n : Int, (∀ x, Li.rdn l = some x → n = x) ∧ e = .returned (.tuple #[.int .i64 n, .bool (Li.rdn l).isSome])
/-- how far the digits are read -/
def DR (l : List UInt8) (M : Bool) (i : Nat) (n : Int) : Prop :=
  n = rdf M ((l.drop (sgk l)).take (i - sgk l)) ∧ Li.In64 n
theorem DR.start (l : List UInt8) (M : Bool) : DR l M (sgk l) 0 := ⟨by simp [rdf], by decide, by decide⟩
theorem DR.go {l : List UInt8} {M : Bool} {i : Nat} {n : Int} (h : DR l M i n) (hi : i < l.length) (hk : sgk l ≤ i) : DR l M (i + 1) (rdg M n (l.getD i 0)) := by
  refine ⟨?_, rdg_in _ _ _⟩
  rw [show i + 1 - sgk l = (i - sgk l) + 1 by omega, List.take_add_one, List.getElem?_drop, show sgk l + (i - sgk l) = i by omega, List.getElem?_eq_getElem hi]
  simp only [Option.toList_some]
  rw [rdf_snoc, ← h.1]
  simp [List.getD, hi]
theorem DR.done {l : List UInt8} {i : Nat} {n : Int} (h : DR l (sgn l) i n) (hi : i = l.length) : ∀ x, Li.rdn l = some x → n = x := by
  intro x hx
  have h1 := (rdn_fold hx).1
  rw [h.1, hi, List.take_of_length_le (by simp), h1]
theorem rdn_bad {l : List UInt8} {i : Nat} (hi : i < l.length) (hk : sgk l ≤ i) (hb : ¬ Li.isDig (l.getD i 0)) : Li.rdn l = none := by
  cases hr : Li.rdn l with
  | none => rfl
  | some x =>
    exfalso
    refine hb ((rdn_fold hr).2.1 _ ?_)
    rw [List.mem_iff_getElem?]
    refine ⟨i - sgk l, ?_⟩
    rw [List.getElem?_drop, show sgk l + (i - sgk l) = i by omega, List.getElem?_eq_getElem hi]
    simp [List.getD, hi]
theorem rdn_long {l : List UInt8} (h : 25 ≤ l.length) : Li.rdn l = none := by
  cases hr : Li.rdn l with
  | none => rfl
  | some x => have := (rdn_fold hr).2.2; omega
theorem sgn_at {l : List UInt8} (h : 0 < l.length) : (((l.getD 0 0).toNat : Int) == 45) = sgn l := by
  cases l with
  | nil => simp at h
  | cons c l =>
    unfold sgn
    simp only [List.getD_cons_zero, List.head?_cons]
    by_cases hc : c = 45
    · subst hc; rfl
    · have h1 : ¬ (c.toNat : Int) = 45 := fun e => hc (UInt8.toNat_inj.1 (by have : (45 : UInt8).toNat = 45 := rfl; omega))
      rw [beq_eq_false_iff_ne.2 h1]
      symm
      exact beq_eq_false_iff_ne.2 fun e => hc (by injection e)
set_option maxHeartbeats 8000000 in
set_option maxRecDepth 100000 in
theorem dread_c (l : List UInt8) (hl : l.length ≤ 140737488355328) (w : World) :
    Calls Tryd.prog 32 #[.string (txb l)] w fun e w' => DrE l w e w' := by
  obtain ⟨L, hL⟩ := hid_ex3 l.length
  have hsz : (txb l).size = L := hL.out
  have hLb : L ≤ 140737488355328 := by have := hL.out; omega
  obtain ⟨K, hK⟩ := hid_ex3 (sgk l)
  have hix : Hid (∀ i, i < L → ∀ W : World, (Instr.index 9 (.string (txb l)) (.int .i64 (i : Int))).run Tryd.prog W = .ok (.int .u8 ((l.getD i 0).toNat : Int)) W) := fun i hi W => txi l i (by rw [hL.out]; exact hi) W
  have hnum : Hid (∀ (n : Int) (W : World), Li.In64 n → Calls Tryd.prog 48 #[.int .i64 n] W fun e w' => e = .returned (.string (txb (Lib.itoa n))) ∧ Below W.heap.size W w') := fun n W hn => rnumber_c n hn W
  have S0 : Hid (∀ M, DR l M K 0) := fun M => by rw [← hK.out]; exact DR.start l M
  have SG : Hid (∀ (M : Bool) (i : Nat) (n : Int), DR l M i n → i < L → sgk l ≤ i → DR l M (i + 1) (rdg M n (l.getD i 0))) := fun M i n h h1 h2 => h.go (by rw [hL.out]; exact h1) h2
  have hbad : Hid (∀ i, i < L → sgk l ≤ i → ¬ Li.isDig (l.getD i 0) → Li.rdn l = none) := fun i h1 h2 h3 => rdn_bad (by rw [hL.out]; exact h1) h2 h3
  have hlong : Hid (25 ≤ L → Li.rdn l = none) := fun h => rdn_long (by rw [hL.out]; exact h)
  have hdone : Hid (∀ (n : Int), DR l (sgn l) L n → ∀ x, Li.rdn l = some x → n = x) := fun n h => h.done hL.out.symm
  have hsame : Hid (∀ (n : Int), Li.In64 n → (∀ x, Li.rdn l = some x → n = x) → ((txb (Lib.itoa n)).toList == (txb l).toList) = (Li.rdn l).isSome) := fun n h1 h2 => by rw [txb_eq]; exact rdn_same h1 h2
  have h0 : Hid (0 < L → (((l.getD 0 0).toNat : Int) == 45) = sgn l) := fun h => sgn_at (by rw [hL.out]; exact h)
  have hKe : Hid (K = bif sgn l then 1 else 0) := hK.out.symm
  have hsg0 : Hid (L = 0 → sgn l = false) := fun h => by
    have e : l = [] := List.eq_nil_of_length_eq_zero (by rw [hL.out]; exact h)
    rw [e]; rfl
  clear hl hL
  unfold DrE
  generalize hMM : sgn l = M at *
  have hMH : Hid (sgn l = M) := hMM
  clear hMM
  have hi64 : Hid (Li.In64 0) := ⟨by decide, by decide⟩
  go_enter Tryd.func32, Tryd.ntmps32
  go_upto_region 2 with fail
  go_cut [5] (fun r wx => r = .bool M ∧ wx = w)
  case first =>
    by_cases hL0 : L = 0
    · subst hL0
      have hv : Hid (false = M) := by have h9 := hsg0.out rfl; exact (h9.symm : _ = _)
      go_wp2_with fail
      go_meet
      case rel => exact ⟨congrArg Value.bool hv.out, rfl⟩
    · have t1 : (0 : Int) < (L : Int) := by omega
      have hx0 : ∀ W : World, (Instr.index 9 (.string (txb l)) (.int .i64 0)).run Tryd.prog W = .ok (.int .u8 ((l.getD 0 0).toNat : Int)) W := fun W => hix.out 0 (by omega) W
      have e0 : Hid ((((l[0]?.getD 0).toNat : Int) == 45) = M) := by have h9 := h0.out (by omega); show _ = _; simpa using h9
      go_wp2_with fail
      go_meet
      case rel => exact ⟨congrArg Value.bool e0.out, rfl⟩
  case rest =>
    obtain ⟨rfl, rfl⟩ := hcut
    have hKL : Hid (K ≤ L) := by
      show _ ≤ _
      have h1 := hKe.out
      have h2 := hsg0.out
      cases M
      · simp at h1; omega
      · simp at h1
        rcases Nat.eq_zero_or_pos L with h | h
        · exact absurd (h2 h) (by decide)
        · omega
    clear h0 hsg0
    cases M
    all_goals (
      have hKl := hKe.out
      simp only [cond_true, cond_false] at hKl
      subst hKl
      clear hKe
      go_wp2_with fail
      go_loopw [6, 4] (fun x y wr => ∃ (i : Nat) (n : Int), x = .int .i64 i ∧ y = .int .i64 n ∧ Hid (sgk l ≤ i ∧ i ≤ L) ∧ Hid (DR l (sgn l) i n) ∧ wr = wc) (fun x _ _ => L + 1 - (intOf x).toNat)
      case atStart => exact ⟨_, _, rfl, rfl, ⟨Nat.le_of_eq hK.out, hKL.out⟩, by have h9 := S0.out (sgn l); exact h9, rfl⟩
      case round =>
        obtain ⟨i, n, rfl, rfl, hi, hn, rfl⟩ := hrel
        have hwn : Hid (Li.In64 n) := hn.out.2
        by_cases hb : i < L
        · have hb1 : (i : Int) < (L : Int) := by omega
          by_cases h25 : L < 25
          · have hb2 : (L : Int) < 25 := by omega
            obtain ⟨c, hc⟩ := hid_ex3 (l.getD i 0)
            have hixi : ∀ W : World, (Instr.index 9 (.string (txb l)) (.int .i64 (i : Int))).run Tryd.prog W = .ok (.int .u8 (c.toNat : Int)) W := fun W => by rw [← hc.out]; exact hix.out i hb W
            obtain ⟨C, hC⟩ := hid_ex3 c.toNat
            rw [hC.out] at hixi
            have hC256 : C < 256 := by rw [← hC.out]; exact UInt8.toNat_lt c
            by_cases hlo : C < 48
            · have q1 : (C : Int) < 48 := by omega
              have hr : Hid (Li.rdn l = none) := hbad.out i hb hi.out.1 (by rw [hc.out]; unfold Li.isDig; rw [hC.out]; omega)
              clear hb
              go_wp2_with fail
              go_ret2
              exact ⟨Below.refl _ _, _, fun x hx => (by rw [hr.out] at hx; cases hx), by rw [hr.out]; rfl⟩
            · have q1 : decide ((C : Int) < 48) = false := decide_eq_false (by omega)
              by_cases hhi : 57 < C
              · have q2 : (C : Int) > 57 := by omega
                have hr : Hid (Li.rdn l = none) := hbad.out i hb hi.out.1 (by rw [hc.out]; unfold Li.isDig; rw [hC.out]; omega)
                clear hb
                go_wp2_with fail
                go_ret2
                exact ⟨Below.refl _ _, _, fun x hx => (by rw [hr.out] at hx; cases hx), by rw [hr.out]; rfl⟩
              · have q2 : decide ((C : Int) > 57) = false := decide_eq_false (by omega)
                have hnx := SG.out (sgn l) i n hn.out hb hi.out.1
                rw [hMH.out, hc.out] at hnx
                have hnH : Hid (DR l _ (i + 1) (rdg _ n c)) := hnx
                have hiH : Hid (sgk l ≤ i + 1 ∧ i + 1 ≤ L) := ⟨by have := hi.out.1; omega, by omega⟩
                have hi1 : IntKind.i64.wrap ((i : Int) + 1) = (i : Int) + 1 := by rw [IntKind.wrap_i64]; omega
                have q3 : IntKind.u8.wrap ((C : Int) - 48) = (C : Int) - 48 := by rw [IntKind.wrap_u8]; omega
                have q4 : IntKind.i64.wrap ((C : Int) - 48) = (C : Int) - 48 := by rw [IntKind.wrap_i64]; omega
                clear hb hlo hhi hnx
                go_wp2_with fail
                go_roundw
                case rel => exact ⟨i + 1, rdg (sgn l) n c, rfl, (by rw [hMH.out]; unfold rdg; rw [hC.out]; simp only [IntWalk.i64_left, cond_true, cond_false]), hiH, (by rw [hMH.out]; exact hnH), trivial⟩
                case measure => simp [intOf]; omega
          · have hb2 : decide ((L : Int) < 25) = false := decide_eq_false (by omega)
            have hr : Hid (Li.rdn l = none) := hlong.out (by omega)
            have hcl : Hid (Calls Tryd.prog 48 #[.int .i64 n] wr fun e w' => e = .returned (.string (txb (Lib.itoa n))) ∧ Below wr.heap.size wr w') := hnum.out n wr hwn.out
            have hsm : Hid (((txb (Lib.itoa n)).toList == (txb l).toList) = false) := by
              have h9 := hsame.out n hwn.out (fun x hx => by rw [hr.out] at hx; cases hx)
              rw [hr.out] at h9; exact h9
            clear hb
            go_wp2_with fail
            refine hcl.out.mono ?_
            rintro e w1 ⟨rfl, B1⟩
            have B1H : Hid (Below wr.heap.size wr w1) := B1
            clear B1
            have hs9 := hsm.out
            go_wp2
            go_ret2
            exact ⟨B1H.out, _, fun x hx => (by rw [hr.out] at hx; cases hx), by rw [hr.out]; rfl⟩
        · have hb1 : decide ((i : Int) < (L : Int)) = false := decide_eq_false (by omega)
          have hiL : i = L := by have := hi.out.2; omega
          have hfin : Hid (∀ x, Li.rdn l = some x → n = x) := hdone.out n (by have h9 := hn.out; rw [hMH.out, hiL] at h9; exact h9)
          have hcl : Hid (Calls Tryd.prog 48 #[.int .i64 n] wr fun e w' => e = .returned (.string (txb (Lib.itoa n))) ∧ Below wr.heap.size wr w') := hnum.out n wr hwn.out
          have hsm : Hid (((txb (Lib.itoa n)).toList == (txb l).toList) = (Li.rdn l).isSome) := hsame.out n hwn.out hfin.out
          clear hiL
          go_wp2_with fail
          refine hcl.out.mono ?_
          rintro e w1 ⟨rfl, B1⟩
          have B1H : Hid (Below wr.heap.size wr w1) := B1
          clear B1
          have hs9 := hsm.out
          go_wp2
          go_ret2
          exact ⟨B1H.out, _, hfin.out, rfl⟩)
set_option maxHeartbeats 8000000 in
set_option maxRecDepth 100000 in
theorem dcut_c (l : List UInt8) (c : UInt8) (hl : l.length ≤ 2000000) (w : World) :
    Calls Tryd.prog 13 #[.string (txb l), .int .u8 (c.toNat : Int)] w fun e w' => ∃ v, e = .returned v ∧ OwT w' w.heap.size v (Li.sp c l) ∧ Below w.heap.size w w' := by
  obtain ⟨L, hL⟩ := hid_ex3 l.length
  have hsz : (txb l).size = L := hL.out
  have hLb : L ≤ 2000000 := by have := hL.out; omega
  obtain ⟨C, hC⟩ := hid_ex3 c.toNat
  rw [hC.out]
  have hix : Hid (∀ i, i < L → ∀ W : World, (Instr.index 9 (.string (txb l)) (.int .i64 (i : Int))).run Tryd.prog W = .ok (.int .u8 ((l.getD i 0).toNat : Int)) W) := fun i hi W => txi l i (by rw [hL.out]; exact hi) W
  have hsl : Hid (∀ (a b : Nat) (W : World), a ≤ b → b ≤ L → (Instr.slice 9 (.string (txb l)) (some (.int .i64 (a : Int))) (some (.int .i64 (b : Int))) none).run Tryd.prog W = .ok (.string (txb ((l.drop a).take (b - a)))) W) := fun a b W h1 h2 => by
    rw [run_slice_string W 9 (txb l) .i64 .i64 (a : Int) (b : Int) Tryd.underlying9 (by omega) (by omega) (by rw [txb_size]; have := hL.out; omega), show ((a : Int)).toNat = a by omega, show ((b : Int)).toNat = b by omega, txb_cut]
  have hgo : Hid (∀ (i fr : Nat) (ws : List (List UInt8)), CP c l i fr ws → i < L → l.getD i 0 ≠ c → CP c l (i + 1) fr ws) := fun i fr ws h h1 h2 => h.go (by rw [hL.out]; exact h1) h2
  have hct : Hid (∀ (i fr : Nat) (ws : List (List UInt8)), CP c l i fr ws → i < L → l.getD i 0 = c → CP c l (i + 1) (i + 1) (ws ++ [(l.drop fr).take (i - fr)])) := fun i fr ws h h1 h2 => h.cut (by rw [hL.out]; exact h1) h2
  have hdn : Hid (∀ (fr : Nat) (ws : List (List UInt8)), CP c l L fr ws → Li.sp c l = ws ++ [(l.drop fr).take (L - fr)]) := fun fr ws h => by have h9 := h; rw [← hL.out] at h9 ⊢; exact h9.done
  have hst : Hid (CP c l 0 0 []) := CP.start c l
  clear hl hL
  go_enter Tryd.func13, Tryd.ntmps13
  go_wp2_with fail
  go_loopw [5, 6, 7] (fun v f x wr => ∃ (i fr : Nat) (ws : List (List UInt8)), f = .int .i64 fr ∧ x = .int .i64 i ∧ Hid (OwT wr w.heap.size v ws) ∧ Hid (Below w.heap.size w wr) ∧ Hid ((i ≤ L ∧ CP c l i fr ws) ∨ (i = L + 1 ∧ Li.sp c l = ws))) (fun _ _ x _ => L + 2 - (intOf x).toNat)
  case atStart => exact ⟨0, 0, [], rfl, rfl, World.ownsRow_made w #[] 0 (Nat.le_refl _) (by decide) rfl, (Below.refl _ _).alloc (Nat.le_refl _) _, .inl ⟨Nat.zero_le _, hst.out⟩⟩
  case round =>
    obtain ⟨i, fr, ws, rfl, rfl, ow, be, hcs⟩ := hrel
    rcases hcs.out with ⟨hiL, hcp⟩ | ⟨hiL, hsp⟩
    · have cp : Hid (CP c l i fr ws) := hcp
      have hfi : Hid (fr ≤ i ∧ ws.length ≤ i) := ⟨hcp.1, hcp.2.2.1⟩
      have hle : (i : Int) ≤ (L : Int) := by omega
      have hi1 : IntKind.i64.wrap ((i : Int) + 1) = (i : Int) + 1 := by rw [IntKind.wrap_i64]; omega
      obtain ⟨U, hU⟩ := hid_ex3 ((l.drop fr).take (i - fr))
      have hsl1 : ∀ W : World, (Instr.slice 9 (.string (txb l)) (some (.int .i64 (fr : Int))) (some (.int .i64 (i : Int))) none).run Tryd.prog W = .ok (.string (txb U)) W := fun W => by rw [← hU.out]; exact hsl.out fr i W hfi.out.1 hiL
      have ow' : Hid (∀ o, OwT (wr.alloc o) w.heap.size u5 ws) := fun o => World.ownsRow.alloc ow.out o
      have cel : Hid ((wr.alloc (.cells #[.string (txb U)] 9)).cell? ⟨wr.heap.size, 0, none⟩ = some (.string (txb U))) := by show _ = _; simp
      have hk : Hid ((ws.length + 1) * 16 ≤ 140737488355328) := by have := hfi.out; show _ ≤ _; omega
      have hB : Hid (∀ o, w.heap.size ≤ (wr.alloc o).heap.size) := fun o => by have := be.out.size; simp; omega
      have hpush : Hid (∀ (v' : Value) (w' : World), (wr.alloc (.cells #[.string (txb U)] 9)).grownBy w' u5.ownBlock → Below w.heap.size w w') := fun v' w' hg => (be.out.alloc be.out.size _).trans ((Below.refl _ _).grown hg (hB.out _) fun b hb => (OwT.lt ow.out b hb).1)
      by_cases hi : i = L
      · have t1 : ((i : Int) == (L : Int)) = true := by rw [hi]; exact beq_self_eq_true _
        have hsp : Hid (Li.sp c l = ws ++ [U]) := by have h9 := hdn.out fr ws (by rw [← hi]; exact cp.out); rw [← hi, hU.out] at h9; exact h9
        have hi9 : Hid (i = L) := hi
        clear hcp hi hcs
        go_wp2_with (first | (at_builtin; refine appT _ rfl _ _ rfl w.heap.size ws U wr.heap.size u5 rfl rfl (ow'.out _) cel.out hk.out (hB.out _) ?_) | fail)
        intro v' w' ho hg
        have hoH : Hid (OwT w' w.heap.size v' (ws ++ [U])) := ho
        have hbH : Hid (Below w.heap.size w w') := hpush.out v' w' hg
        clear ho hg
        go_wp2
        go_roundw
        case rel => exact ⟨i + 1, i + 1, _, rfl, rfl, hoH, hbH, .inr ⟨by rw [hi9.out], hsp.out⟩⟩
        case measure => simp [intOf]; omega
      · have hiL2 : i < L := by omega
        have t1 : ((i : Int) == (L : Int)) = false := beq_eq_false_iff_ne.2 (by omega)
        obtain ⟨d, hd⟩ := hid_ex3 (l.getD i 0)
        obtain ⟨D, hD⟩ := hid_ex3 d.toNat
        have hixi : ∀ W : World, (Instr.index 9 (.string (txb l)) (.int .i64 (i : Int))).run Tryd.prog W = .ok (.int .u8 (D : Int)) W := fun W => by rw [← hD.out, ← hd.out]; exact hix.out i hiL2 W
        by_cases hdc : d = c
        · have t2 : ((D : Int) == (C : Int)) = true := by rw [← hD.out, hdc, hC.out]; exact beq_self_eq_true _
          have hnx : Hid (CP c l (i + 1) (i + 1) (ws ++ [U])) := by rw [← hU.out]; exact hct.out i fr ws cp.out hiL2 (by rw [hd.out, hdc])
          have hiL3 : Hid (i < L) := hiL2
          clear hcp hi hcs hdc hiL2
          go_wp2_with (first | (at_builtin; refine appT _ rfl _ _ rfl w.heap.size ws U wr.heap.size u5 rfl rfl (ow'.out _) cel.out hk.out (hB.out _) ?_) | fail)
          intro v' w' ho hg
          have hoH : Hid (OwT w' w.heap.size v' (ws ++ [U])) := ho
          have hbH : Hid (Below w.heap.size w w') := hpush.out v' w' hg
          clear ho hg
          go_wp2
          go_roundw
          case rel => exact ⟨i + 1, i + 1, _, rfl, rfl, hoH, hbH, .inl ⟨hiL3.out, hnx.out⟩⟩
          case measure => simp [intOf]; omega
        · have t2 : ((D : Int) == (C : Int)) = false := by
            rw [← hD.out, ← hC.out]
            exact beq_eq_false_iff_ne.2 fun e => hdc (UInt8.toNat_inj.1 (by omega))
          have hnx : Hid (CP c l (i + 1) fr ws) := hgo.out i fr ws cp.out hiL2 (by rw [hd.out]; exact hdc)
          have hiL3 : Hid (i < L) := hiL2
          clear hcp hi hcs hdc hiL2
          go_wp2_with fail
          go_roundw
          case rel => exact ⟨i + 1, fr, _, rfl, rfl, ow, be, .inl ⟨hiL3.out, hnx.out⟩⟩
          case measure => simp [intOf]; omega
    · have hle : decide ((i : Int) ≤ (L : Int)) = false := decide_eq_false (by omega)
      have hnle : ¬ i ≤ L := by omega
      have hspH : Hid (Li.sp c l = ws) := hsp
      clear hcs hsp hiL
      go_wp2_with fail
      go_ret
      exact ⟨_, rfl, by rw [hspH.out]; exact ow.out, be.out⟩
end Go.Proofs.YtlbnldbelfgokaaDoor
