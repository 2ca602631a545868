/-
  Package listing: heads, fields, cutWord, cutNumber, Line.
-/
import Derived.Test.YtlbnldbelfgokaaDoorLs1
import Derived.Test.YtlbnldbelfgokaaDoorLi0
import Derived.Test.YtlbnldbelfgokaaDoorSp3
import Derived.Deep.QuietTactic
import Derived.BigQuiet
import Derived.WalkSmall
namespace Go.Proofs.YtlbnldbelfgokaaDoor
open Flo Go.RowKit
def ptr (g i : Nat) : Value := .pointer (some ⟨g, i, none⟩)
/-- a text by its bytes -/
def txb (l : List UInt8) : ByteArray := ⟨l.toArray⟩
theorem txb_list (l : List UInt8) : (txb l).data.toList = l := rfl
theorem txb_size (l : List UInt8) : (txb l).size = l.length := rfl
theorem txb_of (s : ByteArray) : txb s.data.toList = s := rfl
theorem txb_cut (l : List UInt8) (a b : Nat) : (txb l).extract a b = txb ((l.drop a).take (b - a)) := by
  have h := Lib.extract_data (txb l) a b
  rw [txb_list] at h
  rw [← txb_of ((txb l).extract a b), h]
theorem txb_add (l m : List UInt8) : txb l ++ txb m = txb (l ++ m) := by
  have h : (txb l ++ txb m).data.toList = l ++ m := by simp [txb]
  rw [← txb_of (txb l ++ txb m), h]
theorem txb_inj {l m : List UInt8} (h : txb l = txb m) : l = m := by rw [← txb_list l, h, txb_list]
theorem txb_eq (l m : List UInt8) : ((txb l).toList == (txb m).toList) = decide (l = m) := by
  rw [Lib.toList_data, Lib.toList_data, txb_list, txb_list]
  by_cases h : l = m
  · simp [h]
  · rw [decide_eq_false h]; exact beq_eq_false_iff_ne.2 h
theorem ix_wd (c : UInt8) : ∀ l : List UInt8, (Lib.indexByte l c = -1 ∧ Li.wd c l = l ∧ Li.rs c l = []) ∨ ∃ k : Nat, Lib.indexByte l c = (k : Int) ∧ k < l.length ∧ Li.wd c l = l.take k ∧ Li.rs c l = l.drop k
  | [] => .inl ⟨rfl, rfl, rfl⟩
  | b :: l => by
    rw [Li.wd_cons, Li.rs_cons, Lib.indexByte]
    by_cases hb : b = c
    · rw [if_pos hb, if_pos hb, if_pos (beq_iff_eq.2 hb)]
      exact .inr ⟨0, rfl, by simp, rfl, rfl⟩
    · rw [if_neg hb, if_neg hb, if_neg (by simpa using hb)]
      rcases ix_wd c l with ⟨h1, h2, h3⟩ | ⟨k, h1, h2, h3, h4⟩
      · rw [h1, h2, h3]; exact .inl ⟨rfl, rfl, rfl⟩
      · rw [h1, h3, h4]
        refine .inr ⟨k + 1, ?_, by simpa using h2, rfl, rfl⟩
        have : ¬ ((k : Int) == -1) = true := by rw [beq_iff_eq]; omega
        rw [if_neg this]; omega
set_option maxHeartbeats 2000000 in
theorem lheads_c (g : Nat) (w : World) :
    Calls Tryd.prog 19 #[.pointer (some ⟨g, 0, none⟩)] w fun e w' => e = .returned (.agg #[ptr g 0, ptr g 1, ptr g 2, ptr g 3]) ∧ Below w.heap.size w w' := by
  unfold ptr
  go_enter Tryd.func19, Tryd.ntmps19
  go_wp2
  go_region
  all_goals (
    go_wp2
    refine bodyPost_ret (v := .agg #[.pointer (some ⟨g, 0, none⟩), .pointer (some ⟨g, 1, none⟩), .pointer (some ⟨g, 2, none⟩), .pointer (some ⟨g, 3, none⟩)]) (by simp [results, Tryd.results19, go_sem]) rfl ⟨rfl, ?_⟩
    exact ((Below.refl _ _).alloc (Nat.le_refl _) _).drew)
set_option maxHeartbeats 4000000 in
theorem lfields_c (g : Nat) (w : World) :
    Calls Tryd.prog 29 #[.pointer (some ⟨g, 0, none⟩)] w fun e w' => e = .returned (.agg #[ptr g 1, ptr g 2, ptr g 3, ptr g 4, ptr g 5, ptr g 6]) ∧ Below w.heap.size w w' := by
  unfold ptr
  go_enter Tryd.func29, Tryd.ntmps29
  go_wp2
  go_region
  all_goals (
    go_wp2
    refine bodyPost_ret (v := .agg #[.pointer (some ⟨g, 1, none⟩), .pointer (some ⟨g, 2, none⟩), .pointer (some ⟨g, 3, none⟩), .pointer (some ⟨g, 4, none⟩), .pointer (some ⟨g, 5, none⟩), .pointer (some ⟨g, 6, none⟩)]) (by simp [results, Tryd.results29, go_sem]) rfl ⟨rfl, ?_⟩
    exact ((Below.refl _ _).alloc (Nat.le_refl _) _).drew)
set_option maxHeartbeats 4000000 in
theorem lcutWord_c (l : List UInt8) (w : World) :
    Calls Tryd.prog 25 #[.string (txb l)] w fun e w' => e = .returned (.tuple #[.string (txb (Li.wd 32 l)), .string (txb (Li.rs 32 l))]) ∧ Below w.heap.size w w' := by
  have hix : Hid (Calls Tryd.prog 42 #[.string (txb l), .int .u8 32] w fun e w' => e = .returned (.int .i64 (Lib.indexByte l 32)) ∧ w' = w) := Tryd.strings_IndexByte (txb l) 32 w
  have hsz := txb_size l
  rcases ix_wd 32 l with ⟨h1, h2, h3⟩ | ⟨k, h1, h2, h3, h4⟩
  · rw [h1] at hix
    rw [h2, h3]
    have e1 : Hid ((txb l).extract 0 l.length = txb l) := by rw [txb_cut]; simp [Hid]
    have e2 : Hid ((txb l).extract l.length l.length = txb []) := by rw [txb_cut]; simp [Hid]
    go_enter Tryd.func25, Tryd.ntmps25
    go_wp2_with fail
    refine hix.out.mono ?_
    rintro e w' ⟨rfl, rfl⟩
    go_wp2
    go_region
    all_goals (
      go_wp2
      go_ret2
      exact ⟨by rw [e1.out]; rfl, (Below.refl _ _).drew⟩)
  · rw [h1] at hix
    rw [h3, h4]
    have hge : decide ((k : Int) < 0) = false := decide_eq_false (by omega)
    have hk1 : (k : Int) ≤ (l.length : Int) := by omega
    have e1 : Hid ((txb l).extract 0 k = txb (l.take k)) := by rw [txb_cut]; simp [Hid]
    have e2 : Hid ((txb l).extract k l.length = txb (l.drop k)) := by
      rw [txb_cut, List.take_of_length_le (by simp)]; exact (rfl : _ = _)
    have hk0 : (0 : Int) ≤ (k : Int) := by omega
    clear h3 h4
    go_enter Tryd.func25, Tryd.ntmps25
    go_wp2_with fail
    refine hix.out.mono ?_
    rintro e w' ⟨rfl, rfl⟩
    go_wp2
    go_region
    all_goals (
      go_wp2
      go_ret2
      exact ⟨by rw [e1.out, e2.out]; rfl, (Below.refl _ _).drew⟩)
/-- what the writers ask of the world: tables, a sentinel -/
structure Le (w : World) (al : List Addr) : Prop where
  ops : Ops w
  pe : Pe w al
  tab : Lib.TabIs Tryd.prog w "internal/strconv.uint64pow10" .u64 Lib.pow10Tab
/-- what the readers ask besides -/
structure Lf (w : World) (al : List Addr) : Prop where
  le : Le w al
  te : w.cell? ⟨0, 0, none⟩ = some (ek al 5)
  sy : ∃ tp p, w.var? Tryd.prog "strconv.ErrSyntax" = some #[.iface tp p]
  ra : ∃ tp p, w.var? Tryd.prog "strconv.ErrRange" = some #[.iface tp p]
theorem var_below {w w' : World} {name : String} {cs : Array Value} (h : w.var? Tryd.prog name = some cs) (hb : Below w.heap.size w w') : w'.var? Tryd.prog name = some cs := by
  unfold World.var? at *
  cases hg : Tryd.prog.globalNamed name with
  | none => simp [hg] at h
  | some g =>
    simp only [hg, Option.bind_some] at h ⊢
    have hlt : g < w.heap.size := by
      rcases Nat.lt_or_ge g w.heap.size with h' | h'
      · exact h'
      · rw [Array.getElem?_eq_none h'] at h; simp at h
    rw [hb.block g hlt]
    exact h
theorem Le.below {w w' : World} {al : List Addr} (h : Le w al) (hb : Below w.heap.size w w') : Le w' al :=
  ⟨h.ops.below hb, h.pe.below hb, var_below h.tab hb⟩
theorem Lf.below {w w' : World} {al : List Addr} (h : Lf w al) (hb : Below w.heap.size w w') : Lf w' al := by
  obtain ⟨t1, p1, h1⟩ := h.sy
  obtain ⟨t2, p2, h2⟩ := h.ra
  exact ⟨h.le.below hb, (hb.cell (cell_lt h.te)).trans h.te, ⟨t1, p1, var_below h1 hb⟩, ⟨t2, p2, var_below h2 hb⟩⟩
theorem grow_below (w : World) (k : Nat) (os : Array Obj) : Below w.heap.size w (Go.Sort.grow (w.drewN k) os) :=
  ⟨rfl, rfl, rfl, by show w.heap.size ≤ (w.heap ++ os).size; rw [Array.size_append]; omega, fun k hk => by show (w.heap ++ os)[k]? = _; rw [Array.getElem?_append_left hk]⟩
theorem litoa_c (n : Int) (hn : Li.In64 n) (w : World) (al : List Addr) (h : Le w al) :
    Calls Tryd.prog 20 #[.int .i64 n] w fun e w' => e = .returned (.string (txb (Lib.itoa n))) ∧ Below w.heap.size w w' := by
  refine (Tryd.strconv_Itoa n hn.1 hn.2 w h.tab).mono ?_
  rintro e w' ⟨rfl, k, os, rfl⟩
  exact ⟨rfl, grow_below w k os⟩
/-- what Atoi tells -/
def AtE (l : List UInt8) (w : World) (e : Ending) (w' : World) : Prop :=
  Below w.heap.size w w' ∧ ((∃ v, Lib.atoiAll l = .ok v ∧ e = .returned (.tuple #[.int .i64 v, .nilIface])) ∨ (∃ (v : Int) (tp : TypeId) (p : Value), (∀ v, Lib.atoiAll l ≠ .ok v) ∧ e = .returned (.tuple #[.int .i64 v, .iface tp p])))
theorem bw_below (w : World) (e : TypeId) (t : ByteArray) : Below w.heap.size w (Lib.bytesWorld w e t) :=
  ⟨rfl, rfl, rfl, by rw [Lib.bytesWorld_size]; omega, fun k hk => Lib.bytesWorld_at_old w e t k hk⟩
theorem latoi_c (l : List UInt8) (hl : l.length ≤ 140737488355328) (w : World) (al : List Addr) (h : Lf w al) :
    Calls Tryd.prog 43 #[.string (txb l)] w fun e w' => AtE l w e w' := by
  have hs : (txb l).size = l.length := txb_size l
  cases ha : Lib.atoiAll l with
  | ok v =>
    refine (Tryd.strconv_Atoi_ok (txb l) (by omega) v ha w).mono ?_
    rintro e w' ⟨rfl, hw⟩
    refine ⟨?_, .inl ⟨v, ha, rfl⟩⟩
    rcases hw with rfl | ⟨t, rfl⟩
    · exact Below.refl _ _
    · exact bw_below w _ t
  | «syntax» =>
    obtain ⟨tp, p, h1⟩ := h.sy
    refine (Tryd.strconv_Atoi_syntax_var (txb l) (by omega) ha tp p w h1).mono ?_
    rintro e w' ⟨N, rfl, _, _, hb⟩
    exact ⟨hb, .inr ⟨0, _, _, (fun v e => by rw [ha] at e; cases e), rfl⟩⟩
  | range =>
    obtain ⟨tp, p, h1⟩ := h.ra
    refine (Tryd.strconv_Atoi_range_var (txb l) (by omega) ha tp p w h1).mono ?_
    rintro e w' ⟨N, rfl, _, _, hb⟩
    exact ⟨hb, .inr ⟨_, _, _, (fun v e => by rw [ha] at e; cases e), rfl⟩⟩
/-- what cutNumber tells: the number, if there is one; the rest -/
def CnE (l : List UInt8) (w : World) (e : Ending) (w' : World) : Prop :=
  Below w.heap.size w w' ∧ ((∃ x, Li.rdn (Li.wd 32 l) = some x ∧ e = .returned (.tuple #[.int .i64 x, .string (txb (Li.rs 32 l)), .bool true])) ∨ (∃ v : Int, Li.rdn (Li.wd 32 l) = none ∧ e = .returned (.tuple #[.int .i64 v, .string (txb (Li.rs 32 l)), .bool false])))
theorem rdn_ok {l : List UInt8} {v : Int} (h : Lib.atoiAll l = .ok v) : Li.rdn l = if Lib.itoa v = l then some v else none := by unfold Li.rdn; rw [h]
theorem rdn_no {l : List UInt8} (h : ∀ v, Lib.atoiAll l ≠ .ok v) : Li.rdn l = none := by
  unfold Li.rdn
  cases ha : Lib.atoiAll l with
  | ok v => exact absurd ha (h v)
  | «syntax» => rfl
  | range => rfl
set_option maxHeartbeats 4000000 in
theorem lcutNumber_c (l : List UInt8) (hl : l.length ≤ 140737488355328) (w : World) (al : List Addr) (h : Lf w al) :
    Calls Tryd.prog 26 #[.string (txb l)] w fun e w' => CnE l w e w' := by
  have hcw : Hid (Calls Tryd.prog 25 #[.string (txb l)] w fun e w' => e = .returned (.tuple #[.string (txb (Li.wd 32 l)), .string (txb (Li.rs 32 l))]) ∧ Below w.heap.size w w') := lcutWord_c l w
  have hwl : (Li.wd 32 l).length ≤ 140737488355328 := by
    have := congrArg List.length (Li.wd_rs 32 l)
    rw [List.length_append] at this; omega
  unfold CnE
  generalize Li.wd 32 l = u at *
  generalize Li.rs 32 l = r at *
  have hH : Hid (Lf w al) := h
  have hat : Hid (∀ W, Lf W al → Calls Tryd.prog 43 #[.string (txb u)] W fun e w' => AtE u W e w') := fun W hW => latoi_c u hwl W al hW
  clear h hwl
  go_enter Tryd.func26, Tryd.ntmps26
  go_wp2_with fail
  refine hcw.out.mono ?_
  rintro e w1 ⟨rfl, B1⟩
  have B1H : Hid (Below w.heap.size w w1) := B1
  have L1 : Hid (Lf w1 al) := hH.out.below B1
  clear B1
  go_wp2_with fail
  refine (hat.out w1 L1.out).mono ?_
  rintro e w2 ⟨B2, hcs⟩
  have B2H : Hid (Below w.heap.size w w2) := B1H.out.trans (B2.mono B1H.out.size)
  have L2 : Hid (Lf w2 al) := L1.out.below B2
  clear B2 L1
  rcases hcs with ⟨v, hv, rfl⟩ | ⟨v, tp, p, hv, rfl⟩
  · have hi64 := Lib.atoiAll_bounds hv
    have hit : Hid (Calls Tryd.prog 20 #[.int .i64 v] w2 fun e w' => e = .returned (.string (txb (Lib.itoa v))) ∧ Below w2.heap.size w2 w') := litoa_c v hi64 w2 al L2.out.le
    have hrd : Hid (Li.rdn u = if Lib.itoa v = u then some v else none) := rdn_ok hv
    clear hv hi64
    go_wp2_with fail
    refine hit.out.mono ?_
    rintro e w3 ⟨rfl, B3⟩
    have B3H : Hid (Below w.heap.size w w3) := B2H.out.trans (B3.mono B2H.out.size)
    clear B3
    have hb := txb_eq (Lib.itoa v) u
    by_cases heq : Lib.itoa v = u
    · have hr : Hid (Li.rdn u = some v) := by rw [hrd.out, if_pos heq]; exact (rfl : _ = _)
      rw [decide_eq_true heq] at hb
      clear heq
      go_wp2
      go_ret3
      exact ⟨B3H.out, .inl ⟨v, hr.out, rfl⟩⟩
    · have hr : Hid (Li.rdn u = none) := by rw [hrd.out, if_neg heq]; exact (rfl : _ = _)
      rw [decide_eq_false heq] at hb
      clear heq
      go_wp2
      go_ret3
      exact ⟨B3H.out, .inr ⟨v, hr.out, rfl⟩⟩
  · have hr : Hid (Li.rdn u = none) := rdn_no hv
    clear hv
    go_wp2
    go_ret3
    exact ⟨B2H.out, .inr ⟨v, hr.out, rfl⟩⟩
end Go.Proofs.YtlbnldbelfgokaaDoor
