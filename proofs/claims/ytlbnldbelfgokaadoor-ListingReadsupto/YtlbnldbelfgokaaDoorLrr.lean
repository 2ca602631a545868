/-
  timbreref16: number, line, Line.
-/
import Derived.Test.YtlbnldbelfgokaaDoorLs3
import Derived.Test.YtlbnldbelfgokaaDoorSd3
import Derived.Test.YtlbnldbelfgokaaDoorSlv
import Derived.Lib.SlBytesConst
namespace Go.Proofs.YtlbnldbelfgokaaDoor
open Flo Go.RowKit
theorem dec_small {u : Nat} (h : u / 10 = 0) : Lib.decDigits u = [UInt8.ofNat (48 + u % 10)] := by
  rw [Lib.decDigits, dif_pos (by omega), Nat.mod_eq_of_lt (by omega)]
theorem dec_big {u : Nat} (h : ¬ u / 10 = 0) : Lib.decDigits u = Lib.decDigits (u / 10) ++ [UInt8.ofNat (48 + u % 10)] := by
  rw [Lib.decDigits, dif_neg (by omega)]
theorem dec_len {u : Nat} (h : u < 18446744073709551616) : (Lib.decDigits u).length ≤ 20 := by
  rw [Lib.decDigits_length]
  by_cases h1 : u < 10
  · rw [Lib.nDigits_small h1]; omega
  · have := Lib.numDigits_eq u (by omega) h
    split at this <;> omega
theorem conv1 (w : World) (q : Nat) (c : Nat) (hc : c < 256) (h : w.cell? ⟨q, 0, none⟩ = some (.int .u8 (c : Int))) : (convert 53 9 (.slice (some ⟨q, 0, none⟩) 1 1)).run Tryd.prog w = .ok (.string (txb [UInt8.ofNat c])) w := by
  have e : (UInt8.ofNat c).toNat = c := by rw [UInt8.toNat_ofNat']; omega
  have h9 := run_convert_bytes_back (P := Tryd.prog) w 53 9 5 ⟨q, 0, none⟩ 1 [UInt8.ofNat c] Tryd.underlying53 Tryd.underlying5 Tryd.underlying9 (fun j hj => by
    match j, hj with
    | 0, _ => simpa [Addr.add, e] using h)
  exact h9
set_option maxRecDepth 100000 in
set_option maxHeartbeats 4000000 in
theorem rnumber_c (n : Int) (hn : Li.In64 n) (w : World) :
    Calls Tryd.prog 48 #[.int .i64 n] w fun e w' => e = .returned (.string (txb (Lib.itoa n))) ∧ Below w.heap.size w w' := by
  obtain ⟨U, hU⟩ : ∃ U : Nat, U = n.natAbs := ⟨_, rfl⟩
  have hU64 : U ≤ 9223372036854775808 := by have := hn.1; have := hn.2; omega
  have hUl : Hid ((Lib.decDigits U).length ≤ 20) := dec_len (by omega)
  have tl : ∀ (a : Nat) (t : List UInt8), Lib.decDigits a ++ t = Lib.decDigits U → t.length ≤ 20 := fun a t h => by
    have h1 := congrArg List.length h
    have h2 := hUl.out
    rw [List.length_append] at h1; omega
  have tlH : Hid (∀ (a : Nat) (t : List UInt8), Lib.decDigits a ++ t = Lib.decDigits U → t.length ≤ 20) := tl
  clear tl
  have main : ∀ (neg : Bool), Lib.itoa n = (bif neg then [45] else []) ++ Lib.decDigits U → (bif neg then n < 0 else (0 : Int) ≤ n) →
      Calls Tryd.prog 48 #[.int .i64 n] w fun e w' => e = .returned (.string (txb (Lib.itoa n))) ∧ Below w.heap.size w w' := by
    intro neg hit hsg
    have hitH : Hid (Lib.itoa n = (bif neg then [45] else []) ++ Lib.decDigits U) := hit
    clear hit
    cases neg with
    | false =>
      have hge : 0 ≤ n := hsg
      have hlt : decide (n < 0) = false := decide_eq_false (by omega)
      have hcv : IntKind.u64.wrap n = (U : Int) := by rw [IntKind.wrap_u64]; omega
      clear hsg hn hU
      go_enter Tryd.func48, Tryd.ntmps48
      go_wp2
      go_loopw [3, 4] (fun x y wr => ∃ (a : Nat) (t : List UInt8), x = .int .u64 a ∧ y = .string (txb t) ∧ a ≤ 9223372036854775808 ∧ Hid (Lib.decDigits a ++ t = Lib.decDigits U) ∧ Hid (Below w.heap.size w wr)) (fun x _ _ => (intOf x).toNat)
      case atStart => exact ⟨U, [], rfl, rfl, hU64, by simp [Hid], Below.refl _ _⟩
      case round =>
        obtain ⟨a, t, rfl, rfl, ha, hat, Bk⟩ := hrel
        obtain ⟨d, hd⟩ : ∃ d : Nat, d = a % 10 := ⟨_, rfl⟩
        obtain ⟨q, hq⟩ : ∃ q : Nat, q = a / 10 := ⟨_, rfl⟩
        have e1 : (a : Int) % 10 = (d : Int) := by omega
        have e2 : (48 : Int) + (d : Int) = ((48 + d : Nat) : Int) := by omega
        have hd10 : Hid (d < 10) := by show _ < _; omega
        obtain ⟨c, hc⟩ : ∃ c : Nat, c = 48 + d := ⟨_, rfl⟩
        rw [← hc] at e2
        have e3 : IntKind.u64.wrap (c : Int) = (c : Int) := by rw [IntKind.wrap_u64]; omega
        have e4 : IntKind.u8.wrap (c : Int) = (c : Int) := by rw [IntKind.wrap_u8]; omega
        have e5 : (a : Int) / 10 = (q : Int) := by omega
        have hcv1 : ∀ W : World, W.cell? ⟨wr.heap.size, 0, none⟩ = some (.int .u8 (c : Int)) → (convert 53 9 (.slice (some ⟨wr.heap.size, 0, none⟩) 1 1)).run Tryd.prog W = .ok (.string (txb [UInt8.ofNat c])) W := fun W hW => conv1 W _ c (by have := hd10.out; omega) hW
        have hcv2 := hcv1 (wr.alloc (.cells #[.int .u8 (c : Int)] 5)) (by simp)
        have hsa : ∀ W : World, (Op.stringOp .add (txb [UInt8.ofNat c]) (txb t)).run Tryd.prog W = .ok (.string (txb (UInt8.ofNat c :: t))) W := fun W => sadd [UInt8.ofNat c] t W (by have := tlH.out a t hat.out; simp; omega)
        have Bn : Hid (Below w.heap.size w (wr.alloc (.cells #[.int .u8 (c : Int)] 5))) := Bk.out.alloc Bk.out.size _
        by_cases h0 : q = 0
        · have hfin : Hid (UInt8.ofNat c :: t = Lib.decDigits U) := by
            show _ = _
            rw [← hat.out, dec_small (by omega), hc, hd]; rfl
          have e6 : ((q : Int) == 0) = true := by rw [h0]; rfl
          clear hq hd hc h0 hat hcv1
          go_wp2
          go_ret
          exact ⟨by rw [hitH.out, ← hfin.out]; rfl, Bn.out⟩
        · have hne : Hid (Lib.decDigits q ++ (UInt8.ofNat c :: t) = Lib.decDigits U) := by
            show _ = _
            rw [← hat.out, dec_big (u := a) (by omega), hc, hd, hq, List.append_assoc]; rfl
          have e6 : ((q : Int) == 0) = false := beq_eq_false_iff_ne.2 (by omega)
          have hqa : q < a := by omega
          have hq9 : q ≤ 9223372036854775808 := by omega
          clear hd hc hat hcv1 hq
          go_wp2
          go_roundw
          case rel => exact ⟨q, _, rfl, rfl, by omega, hne, Bn⟩
          case measure => simp [intOf]; omega
    | true =>
      have hge : n < 0 := hsg
      have hcv : IntKind.u64.wrap n = 18446744073709551616 - (U : Int) := by rw [IntKind.wrap_u64]; omega
      have hng : IntKind.u64.wrap (-(18446744073709551616 - (U : Int))) = (U : Int) := by rw [IntKind.wrap_u64]; omega
      clear hsg hn hU
      go_enter Tryd.func48, Tryd.ntmps48
      go_wp2
      go_loopw [3, 4] (fun x y wr => ∃ (a : Nat) (t : List UInt8), x = .int .u64 a ∧ y = .string (txb t) ∧ a ≤ 9223372036854775808 ∧ Hid (Lib.decDigits a ++ t = Lib.decDigits U) ∧ Hid (Below w.heap.size w wr)) (fun x _ _ => (intOf x).toNat)
      case atStart => exact ⟨U, [], rfl, rfl, hU64, by simp [Hid], Below.refl _ _⟩
      case round =>
        obtain ⟨a, t, rfl, rfl, ha, hat, Bk⟩ := hrel
        obtain ⟨d, hd⟩ : ∃ d : Nat, d = a % 10 := ⟨_, rfl⟩
        obtain ⟨q, hq⟩ : ∃ q : Nat, q = a / 10 := ⟨_, rfl⟩
        have e1 : (a : Int) % 10 = (d : Int) := by omega
        have e2 : (48 : Int) + (d : Int) = ((48 + d : Nat) : Int) := by omega
        have hd10 : Hid (d < 10) := by show _ < _; omega
        obtain ⟨c, hc⟩ : ∃ c : Nat, c = 48 + d := ⟨_, rfl⟩
        rw [← hc] at e2
        have e3 : IntKind.u64.wrap (c : Int) = (c : Int) := by rw [IntKind.wrap_u64]; omega
        have e4 : IntKind.u8.wrap (c : Int) = (c : Int) := by rw [IntKind.wrap_u8]; omega
        have e5 : (a : Int) / 10 = (q : Int) := by omega
        have hcv1 : ∀ W : World, W.cell? ⟨wr.heap.size, 0, none⟩ = some (.int .u8 (c : Int)) → (convert 53 9 (.slice (some ⟨wr.heap.size, 0, none⟩) 1 1)).run Tryd.prog W = .ok (.string (txb [UInt8.ofNat c])) W := fun W hW => conv1 W _ c (by have := hd10.out; omega) hW
        have hcv2 := hcv1 (wr.alloc (.cells #[.int .u8 (c : Int)] 5)) (by simp)
        have hsa : ∀ W : World, (Op.stringOp .add (txb [UInt8.ofNat c]) (txb t)).run Tryd.prog W = .ok (.string (txb (UInt8.ofNat c :: t))) W := fun W => sadd [UInt8.ofNat c] t W (by have := tlH.out a t hat.out; simp; omega)
        have Bn : Hid (Below w.heap.size w (wr.alloc (.cells #[.int .u8 (c : Int)] 5))) := Bk.out.alloc Bk.out.size _
        by_cases h0 : q = 0
        · have hfin : Hid (UInt8.ofNat c :: t = Lib.decDigits U) := by
            show _ = _
            rw [← hat.out, dec_small (by omega), hc, hd]; rfl
          have e6 : ((q : Int) == 0) = true := by rw [h0]; rfl
          clear hq hd hc h0 hat hcv1
          have hsb : ∀ W : World, (Op.stringOp .add ⟨#[45]⟩ (txb (UInt8.ofNat c :: t))).run Tryd.prog W = .ok (.string (txb (45 :: UInt8.ofNat c :: t))) W := fun W => sadd [45] (UInt8.ofNat c :: t) W (by rw [hfin.out]; have := hUl.out; simp; omega)
          go_wp2
          go_ret
          exact ⟨by rw [hitH.out, ← hfin.out]; rfl, Bn.out⟩
        · have hne : Hid (Lib.decDigits q ++ (UInt8.ofNat c :: t) = Lib.decDigits U) := by
            show _ = _
            rw [← hat.out, dec_big (u := a) (by omega), hc, hd, hq, List.append_assoc]; rfl
          have e6 : ((q : Int) == 0) = false := beq_eq_false_iff_ne.2 (by omega)
          have hqa : q < a := by omega
          have hq9 : q ≤ 9223372036854775808 := by omega
          clear hd hc hat hcv1 hq
          go_wp2
          go_roundw
          case rel => exact ⟨q, _, rfl, rfl, by omega, hne, Bn⟩
          case measure => simp [intOf]; omega
  unfold Lib.itoa at main ⊢
  by_cases h : n < 0
  · rw [if_pos h] at main ⊢
    exact main true (by rw [hU]; rfl) h
  · rw [if_neg h] at main ⊢
    exact main false (by rw [show n.toNat = U by omega]; rfl) (by simp; omega)
/-- what Line answers, by the document -/
def rlv (s : Sp.St) : Value := bif Sp.fm s then .tuple #[.string (txb (lin s)), .int .i64 0] else .tuple #[.string (txb []), .int .i64 9]
end Go.Proofs.YtlbnldbelfgokaaDoor
/-
  timbreref16: Text.
-/
namespace Go.Proofs.YtlbnldbelfgokaaDoor
open Flo Go.RowKit
/-- bytes in a row of one's own -/
def Ro (w : World) (B : Nat) (v : Value) (l : List UInt8) : Prop := w.ownsRow B 5 1 v l.length (Lib.byteCells l)
theorem Ro.conv {w : World} {B : Nat} {v : Value} {l : List UInt8} (h : Ro w B v l) : (convert 53 9 v).run Tryd.prog w = .ok (.string (txb l)) w := by
  rcases h.2 with ⟨rfl, h1⟩ | ⟨g, cap, cur, rfl, _⟩
  · rw [List.eq_nil_of_length_eq_zero h1]; kernel_rfl
  · refine run_convert_bytes_back (P := Tryd.prog) w 53 9 5 ⟨g, 0, none⟩ cap l Tryd.underlying53 Tryd.underlying5 Tryd.underlying9 (fun j hj => ?_)
    have h1 := World.ownsRow.cellAt h j (by omega)
    rw [add_s, Nat.zero_add, h1]
    simp [Lib.byteCells, hj]
theorem Ro.slice {w : World} {B : Nat} {v : Value} {l : List UInt8} (h : Ro w B v l) : ∃ ao cap, v = .slice ao l.length cap := owns_slice h
theorem appR {ops : Array Oper} {rest : List Oper} {o : Oper} {a : Act} {Q : Exit → Act → World → Prop} (w : World) (hgd : o.guard = none) (sl x : Operand)
    (ho : o.op = .call { callee := .builtin .append, args := #[sl, x], argTypes := #[53, 9] })
    (B : Nat) (v : Value) (l m : List UInt8) (hs : a.eval sl = v) (hx : a.eval x = .string (txb m)) (hrow : Ro w B v l) (hk : l.length + m.length ≤ 140737488355328) (hB : B ≤ w.heap.size)
    (h : ∀ v' w', Ro w' B v' (l ++ m) → w.grownBy w' v.ownBlock → wpList Tryd.prog ops Q rest (a.put o.dst v') w') : wpList Tryd.prog ops Q (o :: rest) a w := by
  obtain ⟨i0, hi, hz0, hz1, hz2⟩ := info_parts infoBy
  refine Lib.wpList_append_own_string w hgd sl x 53 9 ho B 5 i0 Tryd.underlying53 Tryd.underlying9 hi hz0 hz1 hz2 v l.length _ hs hrow (txb m) hx (by unfold maxLen; rw [txb_size]; omega) (by rw [txb_size]; omega) hB ?_
  intro v' w' h1 h2 _
  refine h v' w' ?_ h2
  unfold Ro
  rw [List.length_append, Lib.byteCells_append]
  exact h1
theorem appRb {ops : Array Oper} {rest : List Oper} {o : Oper} {a : Act} {Q : Exit → Act → World → Prop} (w : World) (hgd : o.guard = none) (sl x : Operand)
    (ho : o.op = .call { callee := .builtin .append, args := #[sl, x], argTypes := #[53, 53] })
    (B q : Nat) (v : Value) (l : List UInt8) (c : UInt8) (hs : a.eval sl = v) (hx : a.eval x = .slice (some ⟨q, 0, none⟩) 1 1) (hc : w.cell? ⟨q, 0, none⟩ = some (.int .u8 (c.toNat : Int))) (hrow : Ro w B v l) (hk : l.length + 1 ≤ 140737488355328) (hB : B ≤ w.heap.size)
    (h : ∀ v' w', Ro w' B v' (l ++ [c]) → w.grownBy w' v.ownBlock → wpList Tryd.prog ops Q rest (a.put o.dst v') w') : wpList Tryd.prog ops Q (o :: rest) a w := by
  obtain ⟨i0, hi, hz0, hz1, hz2⟩ := info_parts infoBy
  refine wpList_append_fr w hgd sl x 53 ho B 5 i0 (.int .u8 0) 1 1 Tryd.underlying53 hi hz0 hz1 hz2 rfl (by decide) v l.length _ hs hrow ⟨q, 0, none⟩ 1 1 [.int .u8 (c.toNat : Int)] hx rfl ?_ ?_ ?_ ?_ hB ?_
  · intro j u hj
    match j, hj with
    | 0, hj => simp at hj; subst hj; simpa [Addr.add] using hc
  · intro u hu; simp at hu; subst hu; rfl
  · unfold maxLen; omega
  · omega
  · intro v' w' h1 h2 _
    refine h v' w' ?_ h2
    unfold Ro
    rw [List.length_append, Lib.byteCells_append]
    exact h1
/-- what Text answers, by the document -/
def rtv (p : Sp.Pg) : Value := bif p.steps.all Sp.fm then .tuple #[.string (txb (ltx p)), .int .i64 0] else .tuple #[.string (txb []), .int .i64 9]
/-- Text's memory -/
structure TR (p : Sp.Pg) (sv : Value) (w w1 wr : World) (bp B : Nat) (v : Value) (l : List UInt8) : Prop where
  ro : Ro wr B v l
  b1 : Below B w1 wr
  be : Below w.heap.size w wr
  pg : Bpg wr bp p sv
  sz : B ≤ wr.heap.size
section
variable {p : Sp.Pg} {sv v v' : Value} {w w1 wr wx : World} {bp B : Nat} {l m : List UInt8}
theorem TR.call (h : TR p sv w w1 wr bp B v l) (hb : Below wr.heap.size wr wx) : TR p sv w w1 wx bp B v l :=
  ⟨owns_block h.ro fun g hg => hb.block g (World.ownsRow.lt h.ro g hg).2, h.b1.trans (hb.mono h.sz), h.be.trans (hb.mono h.be.size), h.pg.below hb, Nat.le_trans h.sz hb.size⟩
theorem TR.grow (h : TR p sv w w1 wr bp B v l) (hd : Ro wx B v' m) (hg : wr.grownBy wx v.ownBlock) (h1 : w.heap.size ≤ B) (h2 : bp < B) : TR p sv w w1 wx bp B v' m := by
  have hb : Below B wr wx := (Below.refl _ _).grown hg h.sz fun b hb => (World.ownsRow.lt h.ro b hb).1
  refine ⟨hd, h.b1.trans hb, h.be.trans (hb.mono h1), ?_, Nat.le_trans h.sz hb.size⟩
  exact ⟨(hb.cell (p := ⟨bp, 0, none⟩) h2).trans h.pg.c0, (hb.cell (p := ⟨bp, 1, none⟩) h2).trans h.pg.c1, (hb.cell (p := ⟨bp, 2, none⟩) h2).trans h.pg.c2, (hb.cell (p := ⟨bp, 3, none⟩) h2).trans h.pg.c3, (hb.cell (p := ⟨bp, 4, none⟩) h2).trans h.pg.c4⟩
end
/-- the list of the head's numbers, at a block -/
def Hl (w : World) (b : Nat) (p : Sp.Pg) : Prop := w.heap[b]? = some (.cells #[.int .i64 p.len, .int .i64 p.cells, .int .i64 p.inn, .int .i64 p.out] 3 (0, 0))
theorem Hl.cell {w : World} {b : Nat} {p : Sp.Pg} (h : Hl w b p) (k : Nat) (hk : k < 4) : w.cell? ⟨b, k, none⟩ = some (.int .i64 ((Sp.hd p).getD k 0)) := by
  rw [Lib.cell_of_heap h]
  match k, hk with
  | 0, _ => rfl
  | 1, _ => rfl
  | 2, _ => rfl
  | 3, _ => rfl
theorem Hl.lt {w : World} {b : Nat} {p : Sp.Pg} (h : Hl w b p) : b < w.heap.size := cell_lt (h.cell 0 (by decide))
theorem Hl.below {w w' : World} {b : Nat} {p : Sp.Pg} (h : Hl w b p) (hb : Below w.heap.size w w') : Hl w' b p := (hb.block b h.lt).trans h
theorem Hl.grow {w w' : World} {b B : Nat} {p : Sp.Pg} {v : Value} {l : List UInt8} (h : Hl w b p) (hr : Ro w B v l) (hg : w.grownBy w' v.ownBlock) : Hl w' b p :=
  (hg.block b h.lt fun e => Lib.ownBlock_ne hr h (by decide) e.symm).trans h
def tim : List UInt8 := [116, 105, 109, 98, 114, 101]
theorem timC : Lib.byteCells tim = [.int .u8 116, .int .u8 105, .int .u8 109, .int .u8 98, .int .u8 114, .int .u8 101] := rfl
theorem appF {ops : Array Oper} {rest : List Oper} {o : Oper} {a : Act} {Q : Exit → Act → World → Prop} (w : World) (hgd : o.guard = none) (sl x : Operand)
    (ho : o.op = .call { callee := .builtin .append, args := #[sl, x], argTypes := #[53, 53] })
    (B q : Nat) (c : UInt8) (fz : Nat × Nat) (hs : a.eval sl = .slice (some ⟨B, 0, none⟩) 6 6) (hx : a.eval x = .slice (some ⟨q, 0, none⟩) 1 1) (hc : w.cell? ⟨q, 0, none⟩ = some (.int .u8 (c.toNat : Int))) (hh : w.heap[B]? = some (.cells #[.int .u8 116, .int .u8 105, .int .u8 109, .int .u8 98, .int .u8 114, .int .u8 101] 5 fz)) (hB : B ≤ w.heap.size)
    (h : ∀ v' w', Ro w' B v' (tim ++ [c]) → Below w.heap.size w w' → wpList Tryd.prog ops Q rest (a.put o.dst v') w') : wpList Tryd.prog ops Q (o :: rest) a w := by
  obtain ⟨i0, hi, hz0, hz1, hz2⟩ := info_parts infoBy
  have hr := run_append_grow (P := Tryd.prog) w 53 o.type 5 i0 (.int .u8 0) Tryd.underlying53 hi hz0 ⟨B, 0, none⟩ 6 6 (Lib.byteCells tim) (by rw [hz1]; rfl) (fun j u hj => by
      rw [add_s, Nat.zero_add, Lib.cell_of_heap hh]
      rw [timC] at hj
      simpa using hj) ⟨q, 0, none⟩ 1 1 [.int .u8 (c.toNat : Int)] (by rw [hz1]; rfl) (fun j u hj => by
      match j, hj with
      | 0, hj => simp at hj; subst hj; simpa [Addr.add] using hc) (by decide) (by decide) (growslice_fits (by decide) (by rw [hz2]; decide))
  have hrow : (w.drew.alloc (.cells ((Lib.byteCells tim).toArray ++ [Value.int .u8 (c.toNat : Int)].toArray ++ Builtin.zeroCells (Value.int .u8 0).cells (grownCap w (6 + 1) 6 5 - (6 + 1))) 5)).ownsRow B 5 1 (.slice (some ⟨w.heap.size, 0, none⟩) (6 + 1) (grownCap w (6 + 1) 6 5)) (6 + 1) (Lib.byteCells tim ++ [.int .u8 (c.toNat : Int)]) := by
    refine ⟨rfl, .inr ⟨w.heap.size, grownCap w (6 + 1) 6 5, _, rfl, hB, heap_alloc_new w.drew _, grownCap_ge w _ _ _, grownCap_le_maxLen w _ _ _ (by unfold maxLen; decide), ?_, ?_⟩⟩
    · have h9 := grownCap_ge w (6 + 1) 6 5
      rw [Array.size_append, Array.size_append, size_zeroCells]
      show 6 + 1 + _ * 1 = _ * 1
      omega
    · simp [Lib.byteCells, tim]
  refine wpList_plain hgd fun _ hK => ?_
  unfold Oper.wp execOp
  simp only [ho, resolve, invoke, builtin, Sem.run_bind, Sem.run_pure, Result.andThen_ok, List.map_toArray, List.map_cons, List.map_nil, hs, hx, hr]
  refine hK _ _ (h _ _ ?_ ((Below.refl _ w).drew.alloc (Nat.le_refl _) _))
  unfold Ro
  rw [Lib.byteCells_append]
  exact hrow
/-- before the first append -/
structure TF (p : Sp.Pg) (sv : Value) (w w1 wr : World) (bp B : Nat) (v : Value) : Prop where
  hv : v = .slice (some ⟨B, 0, none⟩) 6 6
  hh : ∃ fz, wr.heap[B]? = some (.cells #[.int .u8 116, .int .u8 105, .int .u8 109, .int .u8 98, .int .u8 114, .int .u8 101] 5 fz)
  b1 : Below B w1 wr
  be : Below w.heap.size w wr
  pg : Bpg wr bp p sv
  sz : B < wr.heap.size
section
variable {p : Sp.Pg} {sv v v' : Value} {w w1 wr wx : World} {bp B : Nat}
theorem TF.call (h : TF p sv w w1 wr bp B v) (hb : Below wr.heap.size wr wx) : TF p sv w w1 wx bp B v := by
  obtain ⟨fz, hh⟩ := h.hh
  exact ⟨h.hv, ⟨fz, (hb.block B h.sz).trans hh⟩, h.b1.trans (hb.mono (Nat.le_of_lt h.sz)), h.be.trans (hb.mono h.be.size), h.pg.below hb, Nat.lt_of_lt_of_le h.sz hb.size⟩
theorem TF.app (h : TF p sv w w1 wr bp B v) {l : List UInt8} (hr : Ro wx B v' l) (hb : Below wr.heap.size wr wx) : TR p sv w w1 wx bp B v' l :=
  ⟨hr, h.b1.trans (hb.mono (Nat.le_of_lt h.sz)), h.be.trans (hb.mono h.be.size), h.pg.below hb, Nat.le_trans (Nat.le_of_lt h.sz) hb.size⟩
end
end Go.Proofs.YtlbnldbelfgokaaDoor
