/-
  Package listing: Text.
-/
import Derived.Test.YtlbnldbelfgokaaDoorLs3
import Derived.Test.YtlbnldbelfgokaaDoorSl2
namespace Go.Proofs.YtlbnldbelfgokaaDoor
open Flo Go.RowKit
/-- the first line, as far as it is written -/
def hdK (p : Sp.Pg) (k : Nat) : List UInt8 := [116, 105, 109, 98, 114, 101] ++ Li.enh ((Sp.hd p).take k)
/-- the lines of steps -/
def lins (ss : List Sp.St) : List UInt8 := ss.flatMap fun s => lin s ++ [10]
/-- a program's listing -/
def ltx (p : Sp.Pg) : List UInt8 := hdK p 4 ++ [10] ++ lins p.steps
theorem hdK_succ (p : Sp.Pg) (k : Nat) (hk : k < 4) : hdK p (k + 1) = hdK p k ++ (32 :: Lib.itoa ((Sp.hd p).getD k 0)) := by
  unfold hdK
  have e : (Sp.hd p).take (k + 1) = (Sp.hd p).take k ++ [(Sp.hd p).getD k 0] := by
    match k, hk with
    | 0, _ => rfl
    | 1, _ => rfl
    | 2, _ => rfl
    | 3, _ => rfl
  rw [e]
  simp [Li.enh]
/-- the program's numbers are ints -/
def Pin (p : Sp.Pg) : Prop := ∀ x ∈ Sp.hd p, Li.In64 x
theorem Pin.at {p : Sp.Pg} (h : Pin p) (k : Nat) (hk : k < 4) : Li.In64 ((Sp.hd p).getD k 0) := by
  match k, hk with
  | 0, _ => exact h _ (by simp [Sp.hd])
  | 1, _ => exact h _ (by simp [Sp.hd])
  | 2, _ => exact h _ (by simp [Sp.hd])
  | 3, _ => exact h _ (by simp [Sp.hd])
theorem enh_len : ∀ (xs : List Int), (∀ x ∈ xs, Li.In64 x) → (Li.enh xs).length ≤ 22 * xs.length
  | [], _ => by simp [Li.enh]
  | x :: xs, h => by
    have h1 := enh_len xs fun y hy => h y (List.mem_cons_of_mem _ hy)
    have h2 := h x List.mem_cons_self
    have h3 := Lib.itoa_length_le x h2.1 h2.2
    have e : Li.enh (x :: xs) = 32 :: (Lib.itoa x ++ Li.enh xs) := by simp [Li.enh]
    rw [e]; simp; omega
theorem hdK_len {p : Sp.Pg} (h : Pin p) (k : Nat) : (hdK p k).length ≤ 100 := by
  have h1 := enh_len ((Sp.hd p).take k) fun x hx => h x (List.mem_of_mem_take hx)
  have h2 : ((Sp.hd p).take k).length ≤ 4 := by rw [List.length_take]; show min k 4 ≤ 4; omega
  unfold hdK
  rw [List.length_append]
  show 6 + _ ≤ _
  omega
/-- a line is short -/
theorem itoa_small {x : Int} (h : 0 ≤ x ∧ x ≤ 262144) : (Lib.itoa x).length ≤ 6 := by
  obtain ⟨n, rfl⟩ : ∃ n : Nat, x = (n : Int) := ⟨x.toNat, by omega⟩
  have e : Lib.itoa (n : Int) = Lib.decDigits n := by unfold Lib.itoa; rw [if_neg (by omega)]; rfl
  rw [e, Lib.decDigits_length]
  have hd : ∀ (k m : Nat), m < 10 ^ k → 0 < k → Lib.nDigits m ≤ k := by
    intro k
    induction k with
    | zero => intro m _ h; omega
    | succ k ih =>
      intro m hm _
      by_cases h1 : m < 10
      · rw [Lib.nDigits_small h1]; omega
      · rw [Lib.nDigits_big h1]
        rw [Nat.pow_succ] at hm
        cases k with
        | zero => omega
        | succ k => have := ih (m / 10) (by omega) (by omega); omega
  exact hd 6 n (by omega) (by decide)
theorem lin_len {s : Sp.St} (h : Sp.fm s = true) : (lin s).length ≤ 55 := by
  obtain ⟨h1, h2, h3, h4, h5, h6, h7⟩ := Sp.fm_fields h
  have n0 := nmb_len s.op.toNat
  have e : ∀ (c : UInt8) (x : Int), 0 ≤ x ∧ x ≤ 262144 → (if x = 0 then ([] : List UInt8) else 32 :: c :: Lib.itoa x).length ≤ 8 := fun c x hx => by
    have := itoa_small hx
    split
    · simp
    · simp; omega
  unfold lin ltr Sp.nl
  simp only [Li.encf, List.length_append, List.length_nil]
  have d1 := e 100 s.dst (by omega)
  have d2 := e 115 s.src (by omega)
  have d3 := e 106 s.jump (by omega)
  have d4 := e 99 s.count (by omega)
  have d5 := e 110 s.n (by omega)
  have d6 := e 107 s.k (by omega)
  omega
theorem lins_len : ∀ (ss : List Sp.St), (∀ s ∈ ss, Sp.fm s = true) → (lins ss).length ≤ 56 * ss.length
  | [], _ => by simp [lins]
  | s :: ss, h => by
    have h1 := lins_len ss fun x hx => h x (List.mem_cons_of_mem _ hx)
    have h2 := lin_len (h s List.mem_cons_self)
    have e : lins (s :: ss) = (lin s ++ [10]) ++ lins ss := by simp [lins]
    rw [e, List.length_append, List.length_append]
    simp
    omega
theorem lins_snoc (ss : List Sp.St) (s : Sp.St) : lins (ss ++ [s]) = lins ss ++ (lin s ++ [10]) := by simp [lins]
/-- what Text answers -/
def txv (al : List Addr) (p : Sp.Pg) : Value := bif p.steps.all Sp.fm then .tuple #[.string (txb (ltx p)), .nilIface] else .tuple #[.string (txb []), ek al 8]
def pv4 (b : Nat) : Value := .agg #[ptr b 0, ptr b 1, ptr b 2, ptr b 3]
theorem pv4_index (b k : Nat) (hk : k < 4) (w : World) : (Instr.index 59 (pv4 b) (.int .i64 (k : Nat))).run Tryd.prog w = .ok (.pointer (some ⟨b, k, none⟩)) w :=
  match k, hk with
  | 0, _ => by kernel_rfl
  | 1, _ => by kernel_rfl
  | 2, _ => by kernel_rfl
  | 3, _ => by kernel_rfl
theorem bpg_cell {w : World} {b : Nat} {p : Sp.Pg} {v : Value} (h : Bpg w b p v) (k : Nat) (hk : k < 4) : w.cell? ⟨b, k, none⟩ = some (.int .i64 ((Sp.hd p).getD k 0)) :=
  match k, hk with
  | 0, _ => h.c0
  | 1, _ => h.c1
  | 2, _ => h.c2
  | 3, _ => h.c3
theorem Bd.under {w w' : World} {B b : Nat} {l : List UInt8} (h : Bd w B b l) (hb : Below w.heap.size w w') : Bd w' B b l := by
  have key : ∀ p, Lib.BuilderAt 55 5 B b p (Lib.byteCells l) w → Lib.BuilderAt 55 5 B b p (Lib.byteCells l) w' := fun p h => by
    have hlt := h.lt
    obtain ⟨hB, v, hbk, hown, hne⟩ := h
    exact ⟨hB, v, (hb.block b hlt).trans hbk, owns_block hown fun g hg => hb.block g (World.ownsRow.lt hown g hg).2, hne⟩
  rcases h with h | h
  · exact .inl (key _ h)
  · exact .inr (key _ h)
theorem bd_new (w : World) : Bd (w.alloc (.cells #[.pointer none, .slice none 0 0] 55)) w.heap.size w.heap.size [] := Lib.fresh_isBuilder _ _ w
theorem all_take {ss : List Sp.St} {k : Nat} (h : ∀ j s, j < k → ss[j]? = some s → Sp.fm s = true) : ∀ s ∈ ss.take k, Sp.fm s = true := fun s hs => by
  obtain ⟨j, hj, e⟩ := List.getElem_of_mem hs
  have hj2 : j < k := by rw [List.length_take] at hj; omega
  exact h j s hj2 (by rw [← e, List.getElem_take]; exact List.getElem?_eq_getElem _)
theorem all_false {ss : List Sp.St} {j : Nat} {s : Sp.St} (h : ss[j]? = some s) (hf : Sp.fm s = false) : ss.all Sp.fm = false := by
  rw [← Bool.not_eq_true, List.all_eq_true]
  intro h2
  rw [h2 s (List.mem_of_getElem? h)] at hf
  cases hf
theorem all_true {ss : List Sp.St} (h : ∀ j s, j < ss.length → ss[j]? = some s → Sp.fm s = true) : ss.all Sp.fm = true := by
  rw [List.all_eq_true]
  intro s hs
  exact all_take h s (by rw [List.take_length]; exact hs)
/-- Text's memory -/
structure TS (al : List Addr) (p : Sp.Pg) (v : Value) (w w1 wr : World) (bp bb : Nat) (l : List UInt8) : Prop where
  bd : Bd wr bb bb l
  b1 : Below bb w1 wr
  be : Below w.heap.size w wr
  le : Le wr al
  pg : Bpg wr bp p v
  sz : bb ≤ wr.heap.size
section
variable {al : List Addr} {p : Sp.Pg} {v : Value} {w w1 wr wx : World} {bp bb : Nat} {l : List UInt8}
theorem TS.call (h : TS al p v w w1 wr bp bb l) (hb : Below wr.heap.size wr wx) : TS al p v w w1 wx bp bb l :=
  ⟨h.bd.under hb, h.b1.trans (hb.mono h.sz), h.be.trans (hb.mono h.be.size), h.le.below hb, h.pg.below hb, Nat.le_trans h.sz hb.size⟩
theorem TS.write (h : TS al p v w w1 wr bp bb l) {m : List UInt8} (hd : Bd wx bb bb m) (hb : Below bb wr wx) (h1 : w.heap.size ≤ bb) (h2 : bp < bb) (hL : Le w al) : TS al p v w w1 wx bp bb m := by
  have be : Below w.heap.size w wx := h.be.trans (hb.mono h1)
  refine ⟨hd, h.b1.trans hb, be, hL.below be, ?_, Nat.le_trans h.sz hb.size⟩
  exact ⟨(hb.cell (p := ⟨bp, 0, none⟩) h2).trans h.pg.c0, (hb.cell (p := ⟨bp, 1, none⟩) h2).trans h.pg.c1, (hb.cell (p := ⟨bp, 2, none⟩) h2).trans h.pg.c2, (hb.cell (p := ⟨bp, 3, none⟩) h2).trans h.pg.c3, (hb.cell (p := ⟨bp, 4, none⟩) h2).trans h.pg.c4⟩
end
set_option maxHeartbeats 16000000 in
set_option maxRecDepth 100000 in
theorem ltext_c (p : Sp.Pg) (ao : Option Addr) (c : Nat) (w : World) (al : List Addr) (ha : Ss w ao p.steps) (hb : p.steps.length * 56 ≤ 140737488351232) (hin : Pin p) (hL : Le w al) :
    Calls Tryd.prog 9 #[pv p (.slice ao p.steps.length c)] w fun e w' => e = .returned (txv al p) ∧ Below w.heap.size w w' := by
  obtain ⟨n, hn⟩ := hid_ex3 p.steps.length
  rw [hn.out] at hb ⊢
  obtain ⟨bp, hbp⟩ := hid_ex3 w.heap.size
  obtain ⟨bb, hbb⟩ := hid_ex3 (w.heap.size + 1)
  obtain ⟨w1, ew1⟩ := hid_ex3 ((w.alloc (.cells #[.int .i64 p.len, .int .i64 p.cells, .int .i64 p.inn, .int .i64 p.out, .slice ao n c] 25)).alloc (.cells #[.pointer none, .slice none 0 0] 55))
  have T1 : Hid (TS al p (.slice ao n c) w w1 w1 bp bb []) := by
    have e1 := Bpg.new w p (.slice ao n c)
    have b1 : Below w.heap.size w w1 := by rw [← ew1.out]; exact ((Below.refl _ _).alloc (Nat.le_refl _) _).alloc (by simp) _
    refine ⟨?_, Below.refl _ _, b1, hL.below b1, ?_, ?_⟩
    · have h9 := bd_new (w.alloc (.cells #[.int .i64 p.len, .int .i64 p.cells, .int .i64 p.inn, .int .i64 p.out, .slice ao n c] 25))
      rw [ew1.out] at h9
      simpa [hbb.out] using h9
    · rw [← ew1.out, ← hbp.out]; exact e1.below ((Below.refl _ _).alloc (Nat.le_refl _) _)
    · rw [← ew1.out, ← hbb.out]; simp
  have LH : Hid (Le w al) := hL
  have hz : Hid (w.heap.size ≤ bb ∧ bp < bb) := by rw [← hbb.out, ← hbp.out]; exact ⟨by omega, by omega⟩
  have inH : Hid (Pin p) := hin
  have aH : Hid (Ss w ao p.steps) := ha
  have bH : Hid (n * 56 ≤ 140737488351232) := hb
  have hws : Hid (∀ (W : World) (l s : List UInt8), TS al p (.slice ao n c) w w1 W bp bb l → l.length + s.length ≤ 140737488355328 → Calls Tryd.prog 18 #[.pointer (some ⟨bb, 0, none⟩), .string (txb s)] W fun e w' => e = .returned (.tuple #[.int .i64 (txb s).size, .nilIface]) ∧ TS al p (.slice ao n c) w w1 w' bp bb (l ++ s)) := fun W l s hT hl => by
    refine (bws_c bb bb l (txb s) W hT.bd hl hT.sz).mono ?_
    rintro e w' ⟨rfl, h1, h2⟩
    exact ⟨rfl, hT.write h1 h2 hz.out.1 hz.out.2 LH.out⟩
  have hwb : Hid (∀ (W : World) (l : List UInt8), TS al p (.slice ao n c) w w1 W bp bb l → l.length + 1 ≤ 140737488355328 → Calls Tryd.prog 21 #[.pointer (some ⟨bb, 0, none⟩), .int .u8 10] W fun e w' => e = .returned .nilIface ∧ TS al p (.slice ao n c) w w1 w' bp bb (l ++ [10])) := fun W l hT hl => by
    refine (bwb_c bb bb l W hT.bd hl hT.sz).mono ?_
    rintro e w' ⟨rfl, h1, h2⟩
    exact ⟨rfl, hT.write h1 h2 hz.out.1 hz.out.2 LH.out⟩
  clear ha hb hin hL
  unfold pv
  go_enter Tryd.func9, Tryd.ntmps9
  go_upto_region 2 with fail
  rw [ew1.out, hbb.out, hbp.out]
  go_wp2_with fail
  refine (hws.out w1 [] [116, 105, 109, 98, 114, 101] T1.out (by simp)).mono ?_
  rintro e w2 ⟨rfl, T2⟩
  have T2H : Hid (TS al p (.slice ao n c) w w1 w2 bp bb (hdK p 0)) := by show TS _ _ _ _ _ _ _ _ _; simpa [hdK, Li.enh] using T2
  have hhe : Hid (Calls Tryd.prog 19 #[.pointer (some ⟨bp, 0, none⟩)] w2 fun e w' => e = .returned (pv4 bp) ∧ Below w2.heap.size w2 w') := lheads_c bp w2
  clear T2 T1
  go_wp2_with fail
  refine hhe.out.mono ?_
  rintro e w3 ⟨rfl, B3⟩
  have T3 : Hid (TS al p (.slice ao n c) w w1 w3 bp bb (hdK p 0)) := T2H.out.call B3
  have hix : Hid (∀ k, k < 4 → ∀ W : World, (Instr.index 59 (pv4 bp) (.int .i64 (k : Nat))).run Tryd.prog W = .ok (.pointer (some ⟨bp, k, none⟩)) W) := fun k hk W => pv4_index bp k hk W
  generalize pv4 bp = P4 at hix
  clear B3 hhe T2H
  go_wp2
  go_loopw [13] (fun i wr => ∃ k : Nat, k ≤ 4 ∧ i = .int .i64 k ∧ Hid (TS al p (.slice ao n c) w w1 wr bp bb (hdK p k))) (fun i _ => 4 - (intOf i).toNat)
  case atStart => exact ⟨0, by decide, rfl, T3⟩
  case round =>
    obtain ⟨k, hk, rfl, Tk⟩ := hrel
    by_cases hlt : k < 4
    · have hlt' : (k : Int) < 4 := by omega
      have hi := hix.out k hlt
      have hc := bpg_cell Tk.out.pg k hlt
      have hi64 : Hid (Li.In64 ((Sp.hd p).getD k 0)) := inH.out.at k hlt
      have hsu : Hid (hdK p (k + 1) = hdK p k ++ (32 :: Lib.itoa ((Sp.hd p).getD k 0))) := hdK_succ p k hlt
      generalize (Sp.hd p).getD k 0 = x at *
      have hit : Hid (Calls Tryd.prog 20 #[.int .i64 x] wr fun e w' => e = .returned (.string (txb (Lib.itoa x))) ∧ Below wr.heap.size wr w') := litoa_c x hi64.out wr al Tk.out.le
      have hil : Hid ((Lib.itoa x).length ≤ 21) := Lib.itoa_length_le x hi64.out.1 hi64.out.2
      have a1 : ∀ W : World, (Op.stringOp .add ⟨#[32]⟩ (txb (Lib.itoa x))).run Tryd.prog W = .ok (.string (txb (32 :: Lib.itoa x))) W := fun W => sadd [32] (Lib.itoa x) W (by have := hil.out; simp; omega)
      go_wp2_with fail
      refine hit.out.mono ?_
      rintro e w5 ⟨rfl, B5⟩
      have T5 : Hid (TS al p (.slice ao n c) w w1 w5 bp bb (hdK p k)) := Tk.out.call B5
      clear B5 hit hc
      go_wp2_with fail
      refine (hws.out w5 (hdK p k) (32 :: Lib.itoa x) T5.out (by have h1 := hil.out; have h2 := hdK_len inH.out k; simp; omega)).mono ?_
      rintro e w6 ⟨rfl, T6⟩
      have T6H : Hid (TS al p (.slice ao n c) w w1 w6 bp bb (hdK p (k + 1))) := by rw [hsu.out]; exact T6
      clear T6
      go_wp2
      go_roundw
      case rel => exact ⟨k + 1, by omega, by go_num, T6H⟩
      case measure => simp [intOf]; omega
    · have hlt' : decide ((k : Int) < 4) = false := decide_eq_false (by omega)
      have hk4 : k = 4 := by omega
      have Tk4 : Hid (TS al p (.slice ao n c) w w1 wr bp bb (hdK p 4)) := by rw [← hk4]; exact Tk.out
      clear hk4 Tk
      go_wp2_with fail
      refine (hwb.out wr (hdK p 4) Tk4.out (by have h2 := hdK_len inH.out 4; omega)).mono ?_
      rintro e w5 ⟨rfl, T5⟩
      have T5H : Hid (TS al p (.slice ao n c) w w1 w5 bp bb (hdK p 4 ++ [10] ++ lins (p.steps.take 0))) := by show TS _ _ _ _ _ _ _ _ _; simpa [lins] using T5
      have x4 := T5.pg.c4
      clear T5
      go_wp2_with fail
      clear x4
      go_loopw [27] (fun i wr => ∃ m : Nat, m ≤ n ∧ i = .int .i64 m ∧ Hid (∀ j s, j < m → p.steps[j]? = some s → Sp.fm s = true) ∧ Hid (TS al p (.slice ao n c) w w1 wr bp bb (hdK p 4 ++ [10] ++ lins (p.steps.take m)))) (fun i _ => n - (intOf i).toNat)
      case atStart => exact ⟨0, Nat.zero_le _, rfl, (fun j s h => absurd h (by omega)), T5H⟩
      case round =>
        obtain ⟨m, hm, rfl, hfm, Tm⟩ := hrel
        have hn9 : n ≤ 140737488351232 := by have := bH.out; omega
        have hln : Hid ((hdK p 4 ++ [10] ++ lins (p.steps.take m)).length ≤ 101 + 56 * m) := by
          have h1 := hdK_len inH.out 4
          have h2 := lins_len (p.steps.take m) (all_take hfm.out)
          rw [List.length_take] at h2
          show _ ≤ _
          rw [List.length_append, List.length_append]
          simp only [List.length_cons, List.length_nil]
          omega
        by_cases hlm : m < n
        · have hlm' : (m : Int) < (n : Int) := by omega
          obtain ⟨s, hs⟩ : ∃ s, p.steps[m]? = some s := ⟨_, List.getElem?_eq_getElem (by rw [hn.out]; exact hlm)⟩
          obtain ⟨q, o, rfl, hat⟩ := aH.out m s hs
          obtain ⟨y0, y1, y2, y3, y4, y5, y6⟩ := hat.below Tm.out.be
          obtain ⟨wb, ewb⟩ : ∃ wb, Hid (wr.alloc (.cells #[.int .i64 s.op, .int .i64 s.dst, .int .i64 s.src, .int .i64 s.jump, .int .i64 s.count, .int .i64 s.n, .int .i64 s.k] 38) = wb) := ⟨_, (rfl : _ = _)⟩
          have Tb : Hid (TS al p (.slice (some ⟨q, o, none⟩) n c) w w1 wb bp bb (hdK p 4 ++ [10] ++ lins (p.steps.take m))) := by rw [← ewb.out]; exact Tm.out.call ((Below.refl _ _).alloc (Nat.le_refl _) _)
          have Xb : Hid (Bst wb wr.heap.size s.op s.dst s.src s.jump s.count s.n s.k) := by show Bst _ _ _ _ _ _ _ _ _; rw [← ewb.out]; exact Bst.new wr _ _ _ _ _ _ _
          have hsH : Hid (p.steps[m]? = some s) := hs
          have hlc : Hid (Calls Tryd.prog 22 #[sv s] wb fun e w' => e = .returned (lnv al s) ∧ Below wb.heap.size wb w') := lline_c s wb al Tb.out.le
          have htk : Hid (p.steps.take (m + 1) = p.steps.take m ++ [s]) := by show _ = _; rw [List.take_add_one, hs]; rfl
          unfold sv sva at hlc
          clear hs hat
          go_upto_region 12 with fail
          rw [ewb.out]
          clear y0 y1 y2 y3 y4 y5 y6
          obtain ⟨y0, y1, y2, y3, y4, y5, y6⟩ := Xb.out
          go_wp2_with fail
          refine hlc.out.mono ?_
          rintro e w6 ⟨rfl, B6⟩
          have T6 : Hid (TS al p (.slice (some ⟨q, o, none⟩) n c) w w1 w6 bp bb (hdK p 4 ++ [10] ++ lins (p.steps.take m))) := Tb.out.call B6
          clear y0 y1 y2 y3 y4 y5 y6 B6 hlc
          unfold lnv
          cases hb : Sp.fm s with
          | false =>
            have hv : Hid (txv al p = .tuple #[.string (txb []), ek al 8]) := by unfold txv; rw [all_false hsH.out hb]; exact (rfl : _ = _)
            have hq := nnil_c al 8
            have hgd := guard_c al 8
            simp only [cond_false]
            go_wp2
            go_ret2
            exact ⟨by rw [hv.out]; rfl, T6.out.be⟩
          | true =>
            have hfm2 : Hid (∀ j s, j < m + 1 → p.steps[j]? = some s → Sp.fm s = true) := fun j t hj ht => by
              by_cases e : j = m
              · rw [e, hsH.out] at ht; cases ht; exact hb
              · exact hfm.out j t (by omega) ht
            have hl5 : Hid ((lin s).length ≤ 55) := lin_len hb
            have hlk : Hid (hdK p 4 ++ [10] ++ lins (p.steps.take (m + 1)) = hdK p 4 ++ [10] ++ lins (p.steps.take m) ++ lin s ++ [10]) := by show _ = _; rw [htk.out, lins_snoc]; simp
            simp only [cond_true]
            clear hfm hb
            go_wp2_with fail
            refine (hws.out w6 _ (lin s) T6.out (by have h1 := hln.out; have h2 := hl5.out; have h3 := bH.out; omega)).mono ?_
            rintro e w7 ⟨rfl, T7⟩
            have T7H : Hid (TS al p (.slice (some ⟨q, o, none⟩) n c) w w1 w7 bp bb (hdK p 4 ++ [10] ++ lins (p.steps.take m) ++ lin s)) := T7
            clear T7
            go_wp2_with fail
            refine (hwb.out w7 _ T7H.out (by have h1 := hln.out; have h2 := hl5.out; have h3 := bH.out; rw [List.length_append]; omega)).mono ?_
            rintro e w8 ⟨rfl, T8⟩
            have T8H : Hid (TS al p (.slice (some ⟨q, o, none⟩) n c) w w1 w8 bp bb (hdK p 4 ++ [10] ++ lins (p.steps.take (m + 1)))) := by rw [hlk.out]; exact T8
            clear T8
            go_wp2
            go_roundw
            case rel => exact ⟨m + 1, by omega, by go_num, hfm2, T8H⟩
            case measure => simp [intOf]; omega
        · have hlm' : decide ((m : Int) < (n : Int)) = false := decide_eq_false (by omega)
          have hmn : m = p.steps.length := by rw [hn.out]; omega
          have hall : p.steps.all Sp.fm = true := all_true (by rw [← hmn]; exact hfm.out)
          have hv : Hid (txv al p = .tuple #[.string (txb (hdK p 4 ++ [10] ++ lins (p.steps.take m))), .nilIface]) := by
            unfold txv ltx; rw [hall, hmn, List.take_length]; exact (rfl : _ = _)
          have hst : Hid (Calls Tryd.prog 23 #[.pointer (some ⟨bb, 0, none⟩)] wr fun e w' => e = .returned (.string (txb (hdK p 4 ++ [10] ++ lins (p.steps.take m)))) ∧ Below bb wr w') := bstr_c bb bb _ wr Tm.out.bd Tm.out.sz
          obtain ⟨TT, hTT⟩ := hid_ex3 (txb (hdK p 4 ++ [10] ++ lins (p.steps.take m)))
          rw [hTT.out] at hst hv
          clear hall hmn hTT
          go_wp2_with fail
          refine hst.out.mono ?_
          rintro e w6 ⟨rfl, B6⟩
          have Bf : Hid (Below w.heap.size w w6) := Tm.out.be.trans (B6.mono hz.out.1)
          clear B6 hst
          go_wp2
          go_ret2
          exact ⟨by rw [hv.out]; rfl, Bf.out⟩
end Go.Proofs.YtlbnldbelfgokaaDoor
/-
  The statements of layer 16: lives.
-/
namespace Go.Proofs.YtlbnldbelfgokaaDoor
open Flo Go.RowKit
def p16 : Sp.Pg := ⟨2, 2, 0, 0, [⟨5, 0, 0, 1, 1, 2, 0⟩]⟩
theorem it0 : Lib.itoa 0 = [48] := by
  show Lib.decDigits 0 = _
  rw [Lib.decDigits_one (by decide)]; rfl
theorem it1 : Lib.itoa 1 = [49] := by
  show Lib.decDigits 1 = _
  rw [Lib.decDigits_one (by decide)]; rfl
theorem it2 : Lib.itoa 2 = [50] := by
  show Lib.decDigits 2 = _
  rw [Lib.decDigits_one (by decide)]; rfl
theorem p16_tx : ltx p16 = [116, 105, 109, 98, 114, 101, 32, 50, 32, 50, 32, 48, 32, 48, 10, 102, 108, 121, 32, 106, 49, 32, 99, 49, 32, 110, 50, 10] := by
  have e : ((5 : Int).toNat) = 5 := rfl
  have e2 : (nmb 5).data.toList = [102, 108, 121] := rfl
  simp [ltx, hdK, lins, lin, p16, Sp.hd, Sp.nl, Li.enh, Li.encf, ltr, it0, it1, it2, e2]
theorem p16_v (al : List Addr) : txv al p16 = .tuple #[.string ⟨#[116, 105, 109, 98, 114, 101, 32, 50, 32, 50, 32, 48, 32, 48, 10, 102, 108, 121, 32, 106, 49, 32, 99, 49, 32, 110, 50, 10]⟩, .nilIface] := by
  unfold txv
  rw [show p16.steps.all Sp.fm = true from rfl, p16_tx]; rfl
theorem nil16 (w : World) : (binOp .eql 27 .nilIface .nilIface).run Tryd.prog w = .ok (.bool true) w := by kernel_rfl
set_option maxHeartbeats 4000000 in
set_option maxRecDepth 100000 in
theorem llives_c (al : List Addr) (w : World) (hL : Le w al) :
    Calls Tryd.prog 4 #[] w fun e w' => e = .returned (.bool true) ∧ Below w.heap.size w w' := by
  obtain ⟨w1, ew1⟩ := hid_ex3 (w.alloc (.cells #[.int .i64 5, .int .i64 0, .int .i64 0, .int .i64 1, .int .i64 1, .int .i64 2, .int .i64 0] 38))
  have B1 : Hid (Below w.heap.size w w1) := by rw [← ew1.out]; exact (Below.refl _ _).alloc (Nat.le_refl _) _
  obtain ⟨b, hb⟩ := hid_ex3 w.heap.size
  have S1 : Ss w1 (some ⟨b, 0, none⟩) p16.steps := fun i s hi => by
    match i, hi with
    | 0, hi =>
      have e : s = ⟨5, 0, 0, 1, 1, 2, 0⟩ := by simpa [p16] using hi.symm
      subst e
      refine ⟨b, 0, rfl, ?_⟩
      rw [← ew1.out, ← hb.out]
      exact ⟨by simp, by simp, by simp, by simp, by simp, by simp, by simp⟩
    | n + 1, hi => simp [p16] at hi
  have hT : Hid (Calls Tryd.prog 9 #[.agg #[.int .i64 2, .int .i64 2, .int .i64 0, .int .i64 0, .slice (some ⟨b, 0, none⟩) 1 1]] w1 fun e w' => e = .returned (.tuple #[.string ⟨#[116, 105, 109, 98, 114, 101, 32, 50, 32, 50, 32, 48, 32, 48, 10, 102, 108, 121, 32, 106, 49, 32, 99, 49, 32, 110, 50, 10]⟩, .nilIface]) ∧ Below w1.heap.size w1 w') := by
    rw [← p16_v al]
    exact ltext_c p16 (some ⟨b, 0, none⟩) 1 w1 al S1 (by decide) (fun x hx => by simp [Sp.hd, p16] at hx; rcases hx with rfl | rfl <;> exact ⟨by decide, by decide⟩) (hL.below B1.out)
  clear S1 hL
  have hnn := nil16
  go_enter Tryd.func4, Tryd.ntmps4
  go_wp2_with fail
  rw [ew1.out, hb.out]
  refine hT.out.mono ?_
  rintro e w2 ⟨rfl, B2⟩
  have Bf : Hid (Below w.heap.size w w2) := B1.out.trans (B2.mono B1.out.size)
  clear B2 hT
  go_wp2
  go_ret
  exact ⟨rfl, Bf.out⟩
end Go.Proofs.YtlbnldbelfgokaaDoor
