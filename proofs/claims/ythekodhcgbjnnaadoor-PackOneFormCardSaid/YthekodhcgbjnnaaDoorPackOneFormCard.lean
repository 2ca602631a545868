/-
  Proved: for all bytes b and all lists of kinds the Go function timbrelaw04.PackOneForm returns true and leaves everything as it was (what a Reader has read a Writer writes again, byte for byte); condition: the five listed sentinel errors read as the program's text lays them (the card ties that).
-/
import Derived.Test.YthekodhcgbjnnaaDoorCards
import Derived.Test.YthekodhcgbjnnaaDoorTie
import Derived.Test.YthekodhcgbjnnaaDoorPackOneFormWalk
import Derived.Test.YthekodhcgbjnnaaDoorErr
import Derived.Test.YthekodhcgbjnnaaDoorLaid
import Derived.ProofKit
import Derived.LaidMore
import Derived.OpenShut
import Derived.SizedLaws
import Derived.Stop.Joined
namespace Go.Proofs.YthekodhcgbjnnaaDoor.packOneForm
open Go.ChangeShapes Go.WideShapes Go.ChangeAt Go.RowKit
theorem own : ownKnob Tryd.prog.godebug = none := by kernel_rfl
theorem laidOut : laidOutB Tryd.prog = true := by kernel_rfl
theorem cells8 : Tryd.prog.cellsOf 5 = 1 := by kernel_rfl
theorem bytes8 : Tryd.prog.bytesOf 5 = 1 := by kernel_rfl
theorem cellsI : Tryd.prog.cellsOf 3 = 1 := by kernel_rfl
theorem bytesI : Tryd.prog.bytesOf 3 = 8 := by kernel_rfl
theorem spotN {w : World} {a : Addr} {v : Value} (h : w.cell? a = some v) : a.spot = none := by
  unfold World.cell? at h
  split at h
  · split at h
    · cases h
    · rename_i hs; simpa using hs
  · cases h
theorem add_at (b off i : Nat) : (⟨b, off, none⟩ : Addr).add i = ⟨b, off + i, none⟩ := by
  unfold Addr.add
  by_cases h : i = 0
  · subst h; simp
  · simp [h]
/-- A list of bytes that came in, opened once, nil or not. -/
theorem view8 {H : Type} {enc : TypeId × Value → H} {W : World} {fuel : Nat} {a0 : Option Addr} {len cap : Nat} {d : DataW H} {p : List MemPlace}
    (hf : DataW.trod enc Tryd.prog W 0 (fun _ => true) true fuel 26 (Value.slice a0 len cap).cells.toList = some (d, p)) :
    ∃ bs : List Nat, bs.length = len ∧ (bs.length ≤ 140737488351232 → InB W (.slice a0 len cap) bs) ∧ (len = 0 ∨ ∃ el sp, d = .slice el sp ∧ el.length = len) := by
  rcases open_ints Tryd.underlying26 Tryd.underlying5 cells8 hf with ⟨hcs, hx⟩ | ⟨a, len', cap', Z, hcs, _, hl, hm, hz, hx, hcell, hwz⟩
  · simp [Value.cells] at hcs
    obtain ⟨rfl, rfl, rfl⟩ := hcs
    exact ⟨[], rfl, fun _ => ⟨.inl ⟨rfl, rfl⟩, fun h => absurd rfl h, fun x hx => (by cases hx), by simp⟩, Or.inl rfl⟩
  · simp [Value.cells] at hcs
    obtain ⟨rfl, rfl, rfl⟩ := hcs
    simp only [Prod.mk.injEq] at hx
    obtain ⟨rfl, rfl⟩ := hx
    simp only [if_true] at hz
    have bd : ∀ i, i < len → (0 : Int) ≤ Z.getD i 0 ∧ Z.getD i 0 ≤ 255 := fun i hi => by
      have e : Z.getD i 0 = Z[i] := by simp [List.getD, show i < Z.length by omega]
      rw [e]; exact bounds_u8 (hwz _ (List.getElem_mem _))
    have ln : ((Z.take len).map Int.toNat).length = len := by simp; omega
    have gt : ∀ i, i < len → (((Z.take len).map Int.toNat).getD i 0 : Int) = Z.getD i 0 := fun i hi => by
      have e : Z.getD i 0 = Z[i] := by simp [List.getD, show i < Z.length by omega]
      have b := bd i hi
      rw [e] at b ⊢
      simp [List.getD, hi, show i < Z.length by omega]
      omega
    have hby : ∀ x ∈ (Z.take len).map Int.toNat, x < 256 := fun x hx => by
      obtain ⟨y, hy, rfl⟩ := List.mem_map.1 hx
      have := bounds_u8 (hwz y (List.mem_of_mem_take hy))
      omega
    refine ⟨(Z.take len).map Int.toNat, ln, fun hb => ⟨.inr ⟨a, cap, by rw [ln], fun j u hj => ?_⟩, fun hne => ?_, hby, hb⟩, Or.inr ⟨_, _, rfl, by simp [lits]; omega⟩⟩
    · have hj2 : j < len := by
        have := (List.getElem?_eq_some_iff.1 hj).1
        rw [bc_len, ln] at this; exact this
      have e : (bc ((Z.take len).map Int.toNat))[j]? = some (.int .u8 (((Z.take len).map Int.toNat).getD j 0 : Nat)) := by
        have hj3 : j < ((Z.take len).map Int.toNat).length := by rw [ln]; exact hj2
        unfold bc
        rw [List.getElem?_map, List.getElem?_eq_getElem hj3]
        simp only [Option.map_some, List.getD, List.getElem?_eq_getElem hj3, Option.getD_some]
      rw [e] at hj
      cases hj
      rw [gt j hj2]
      exact hcell j (by omega)
    · have h0 : 0 < len := by
        rcases Nat.eq_zero_or_pos len with h | h
        · exact absurd (List.eq_nil_of_length_eq_zero (by rw [ln, h])) hne
        · exact h
      have c0 := hcell 0 (by omega)
      obtain ⟨b, off, sp⟩ := a
      obtain rfl : sp = none := spotN c0
      refine ⟨b, off, cap, by rw [ln], by rw [ln]; exact hl, cell_lt c0, fun i hi => ?_⟩
      rw [ln] at hi
      rw [gt i hi, ← add_at]
      exact hcell i (by omega)
/-- A list of ints that came in. -/
theorem viewI {H : Type} {enc : TypeId × Value → H} {W : World} {fuel : Nat} {a0 : Option Addr} {len cap : Nat} {d : DataW H} {p : List MemPlace}
    (hf : DataW.trod enc Tryd.prog W 0 (fun _ => true) true fuel 52 (Value.slice a0 len cap).cells.toList = some (d, p)) :
    ∃ zs : List Int, zs.length = len ∧ InI W (.slice a0 len cap) zs ∧ (len = 0 ∨ ∃ el sp, d = .slice el sp ∧ el.length = len) := by
  rcases open_ints Tryd.underlying52 Tryd.underlying3 cellsI hf with ⟨hcs, hx⟩ | ⟨a, len', cap', Z, hcs, _, hl, hm, hz, hx, hcell, hwz⟩
  · simp [Value.cells] at hcs
    obtain ⟨rfl, rfl, rfl⟩ := hcs
    exact ⟨[], rfl, ⟨_, _, rfl, fun h => absurd rfl h⟩, Or.inl rfl⟩
  · simp [Value.cells] at hcs
    obtain ⟨rfl, rfl, rfl⟩ := hcs
    simp only [Prod.mk.injEq] at hx
    obtain ⟨rfl, rfl⟩ := hx
    simp only [if_true] at hz
    have ln : (Z.take len).length = len := by simp; omega
    refine ⟨Z.take len, ln, ⟨some a, cap, by rw [ln], fun hne => ?_⟩, Or.inr ⟨_, _, rfl, by simp [lits]; omega⟩⟩
    have h0 : 0 < len := by
      rcases Nat.eq_zero_or_pos len with h | h
      · exact absurd (List.eq_nil_of_length_eq_zero (by rw [ln, h])) hne
      · exact h
    have c0 := hcell 0 (by omega)
    obtain ⟨b, off, sp⟩ := a
    obtain rfl : sp = none := spotN c0
    refine ⟨b, off, rfl, cell_lt c0, fun i hi => ?_⟩
    rw [ln] at hi
    have e : (Z.take len).getD i 0 = Z.getD i 0 := by simp [List.getD, hi]
    rw [e, ← add_at]
    exact hcell i (by omega)
def e5Names : List (String × List UInt8) := [("timbre/api.ErrShort", [116, 105, 109, 98, 114, 101, 58, 32, 116, 111, 111, 32, 115, 104, 111, 114, 116]), ("timbre/api.ErrVarint", [116, 105, 109, 98, 114, 101, 58, 32, 118, 97, 114, 105, 110, 116]), ("timbre/api.ErrLimit", [116, 105, 109, 98, 114, 101, 58, 32, 108, 105, 109, 105, 116]), ("timbre/api.ErrTail", [116, 105, 109, 98, 114, 101, 58, 32, 116, 97, 105, 108]), ("timbre/api.ErrNumber", [116, 105, 109, 98, 114, 101, 58, 32, 110, 117, 109, 98, 101, 114])]
theorem e5_laid {W : World} (hL : laidMetH Tryd.prog Rows.packOneFormRow.laid W) : ∃ al, E5 W al := by
  have h : laidMetH Tryd.prog (e5Names.map fun x => (x.1, errD x.2)) W := hL
  rw [MakeChecks.laidMetH_plain _ _ _ (by kernel_rfl)] at h
  obtain ⟨ps, hv, hnd, hr⟩ := h
  obtain ⟨al, h1, h2, h3⟩ := sents e5Names [2, 1, 4, 0, 3] ps (by kernel_rfl) (by decide +kernel) hv hr
  match al, h1 with
  | [a0, a1, a2, a3, a4], h1 =>
    exact ⟨[a0, a1, a2, a3, a0, a0, a0, a0, a0, a0, a0, a0, a4], h1.1, h1.2.1, h1.2.2.1, h1.2.2.2.1, h1.2.2.2.2.1⟩
theorem door_met (os : Os) (args : Array Value) : laidMetH Tryd.prog Rows.packOneFormRow.laid ((World.doorLaid Tryd.prog 370 os).forCall (fun _ _ => 0) ⟨#[], args, []⟩).memory :=
  laidMetH_of_parts3 (fuel := 8) (laidMet_of_run' 8 (by kernel_rfl) (by kernel_rfl)) (by kernel_rfl) (by kernel_rfl)
set_option maxRecDepth 100000 in
theorem lifted (os : Os) (started : os.Started) (H : Type) (enc : TypeId × Value → H) :
    ReturnsInHanded {} Tryd.checked os 6 .any (fun w args => (Rows.packOneFormSpec.pre enc Tryd.prog Tryd.f6 [] false w args ∧ laidMetH Tryd.prog Rows.packOneFormRow.laid w) ∧ sizedMet enc Tryd.prog Tryd.f6 (OpenSpec.ofChange Rows.packOneFormSpec) false w args)
      (Rows.packOneFormSpec.post enc Tryd.prog Tryd.f6 false true false false) := by
  refine returnsInHanded_of_change_and (C := Tryd.checked) (X := fun w _ => laidMetH Tryd.prog Rows.packOneFormRow.laid w) (fun _ _ _ hh h => h.of_heap hh) own started (by kernel_rfl) Tryd.func6
    (ChangeSpec.witness_shaped (enc := enc) (C := Tryd.checked) (os := os) (X := fun w _ => laidMetH Tryd.prog Rows.packOneFormRow.laid w) false (World.doorLaid Tryd.prog 370 os) #[.slice none 0 0, .slice none 0 0] 8 rfl (World.shaped_of_RefB (by kernel_rfl) (by kernel_rfl)) (by kernel_rfl) (by kernel_rfl) (by kernel_rfl) (door_met os _)) ?_
  intro W base args ds gs before hval0 hW _ hsz0 hL _
  have hval : ∀ (j : Nat) t v, Tryd.f6.params[j]? = some t → args[j]? = some v → Value.okWide Tryd.prog W .any base t v := hval0
  have hsz : (DataW.weightsEach Tryd.prog (Tryd.f6.params.toList ++ Rows.packOneFormSpec.plain.varTypes Tryd.prog) (ds ++ gs)).all (· ≤ reachBytes) = true := hsz0
  have hW' := hW
  obtain ⟨p, q, hA0, hV, rfl, hfz, hnd⟩ := hW
  have hA : DataW.TrodAll enc Tryd.prog W 0 (fun _ => true) true Tryd.f6.params.toList args.toList ds p := hA0
  rw [Tryd.params6] at hA hval hsz
  obtain ⟨v0, vs0, d0, ds0, p0, q0, hargs, rfl, rfl, h0, r0⟩ := trodAll_cons hA
  obtain ⟨v1, vs1, d1, ds1, p1, q1, rfl, rfl, rfl, h1, r1⟩ := trodAll_cons r0
  obtain ⟨rfl, rfl, rfl⟩ := trodAll_nil r1
  obtain rfl : args = #[v0, v1] := by cases args; simp_all
  obtain ⟨rfl, rfl⟩ := trodVars_none hV
  have h0k := h0
  have h1k := h1
  obtain ⟨a0, n0, c0, rfl⟩ := okWide_slice Tryd.underlying26 (hval 0 26 v0 rfl rfl)
  obtain ⟨a1, n1, c1, rfl⟩ := okWide_slice Tryd.underlying52 (hval 1 52 v1 rfl rfl)
  obtain ⟨f0, h0⟩ := h0
  obtain ⟨f1, h1⟩ := h1
  obtain ⟨bs, l0, i0, e0⟩ := view8 h0
  obtain ⟨zs, l1, i1, e1⟩ := viewI h1
  have b0 : bs.length ≤ 140737488351232 := by
    rcases e0 with e | ⟨el, sp, rfl, hl⟩
    · omega
    · have := sized_slice hsz (j := 0) (t := 26) (e := 5) rfl rfl Tryd.underlying26
      rw [bytes8] at this
      simp only [reachBytes] at this
      omega
  have b1 : n1 ≤ 140737488351232 := by
    rcases e1 with e | ⟨el, sp, rfl, hl⟩
    · omega
    · have := sized_slice hsz (j := 1) (t := 52) (e := 3) rfl rfl Tryd.underlying52
      rw [bytesI] at this
      simp only [reachBytes] at this
      omega
  obtain ⟨al, hE⟩ := e5_laid hL
  clear hA0 hval0 hsz0
  refine (oneform_w a0 n0 c0 a1 n1 c1 bs zs al W (i0 b0) l0.symm i1 b1 hE).mono fun e W' ⟨he, hg⟩ => ?_
  subst he
  have lt0 : ∀ x ∈ p0, x.block < W.heap.size := fun x hx => by simpa using hW'.lt x (by simp [hx])
  have lt1 : ∀ x ∈ p1, x.block < W.heap.size := fun x hx => by simpa using hW'.lt x (by simp [hx])
  exact ⟨_, rfl, _, _, _, [], p0 ++ (p1 ++ []), [], hW', trodAll_cons_mk (shut_bool Tryd.underlying4 _) trodAll_mk0,
    trodAll_cons_mk (Below.trod laidOut (by kernel_rfl) (of_decide_eq_true (by kernel_rfl)) h0k hg lt0) (trodAll_cons_mk (Below.trod laidOut (by kernel_rfl) (of_decide_eq_true (by kernel_rfl)) h1k hg lt1) trodAll_mk0), rfl, hg.frame _, fun h => by cases h⟩
theorem said : Rows.PackOneFormSaid :=
  OpenClaim.holds_of_wide 6 Tryd.f6 rfl rfl rfl rfl rfl rfl rfl ⟨rfl, rfl, rfl, rfl, rfl⟩ rfl rfl rfl rfl rfl (by kernel_rfl) Tryd.func6 (by kernel_rfl)
    (of_decide_eq_true (by kernel_rfl)) (by unfold Func.isWrapper; first | (rw [if_pos (by decide +kernel)]; kernel_rfl) | (rw [if_neg (by decide +kernel)]; exact ⟨rfl, rfl⟩))
    (fun os started H enc _ => lifted os started H enc)
theorem plain (f : FuncId) (fn : Func) (hf : Tryd.pinned.checked.prog.funcNamed "timbre/timbrelaw04.PackOneForm" = some f) (hfn : Tryd.pinned.checked.prog.funcs[f]? = some fn) :
    true = Tryd.pinned.checked.prog.looks [] ∧ ∀ (j : Nat) t, fn.params[j]? = some t → Tryd.pinned.checked.prog.wantsStandIn t = false := by
  obtain rfl : f = 6 := Option.some.inj ((show Tryd.prog.funcNamed "timbre/timbrelaw04.PackOneForm" = some 6 by kernel_rfl).symm.trans hf) |>.symm
  obtain rfl : fn = Tryd.f6 := (Option.some.inj (Tryd.func6.symm.trans hfn)).symm
  refine ⟨by kernel_rfl, fun j t ht => ?_⟩
  rw [Tryd.params6] at ht
  have hm : t ∈ [26, 52] := by simpa using Array.mem_of_getElem? ht
  have hall : ([26, 52].all fun u => !Tryd.prog.wantsStandIn u) = true := by kernel_rfl
  exact (show Tryd.prog.wantsStandIn t = false by simpa using List.all_eq_true.1 hall t hm)
theorem card : Rows.PackOneFormCardSaid :=
  Claim7.holds_tied_plain_at .later [] _ _ _ _ said (fun _ h => by cases h) (by kernel_rfl) (fun _ h => by cases h) packOneForm_row_tie rfl ⟨rfl, rfl⟩ (by kernel_rfl) rfl plain (by kernel_rfl)
end Go.Proofs.YthekodhcgbjnnaaDoor.packOneForm
namespace Go.Proofs.YthekodhcgbjnnaaDoor
theorem packOneForm_card : Rows.PackOneFormCardSaid := packOneForm.card
end Go.Proofs.YthekodhcgbjnnaaDoor
