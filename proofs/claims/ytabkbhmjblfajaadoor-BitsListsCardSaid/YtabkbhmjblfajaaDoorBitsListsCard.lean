/-
  Proved: for all lists of bits a and b the Go function timbrelaw01.BitsLists returns true and leaves everything as it was; condition: the listed sentinel error reads as the program's text lays it (the card ties that).
-/
import Derived.Test.YtabkbhmjblfajaaDoorCards
import Derived.Test.YtabkbhmjblfajaaDoorTie
import Derived.Test.YtabkbhmjblfajaaDoorBitsListsWalk
import Derived.Test.YtabkbhmjblfajaaDoorErr
import Derived.ProofKit
import Derived.LaidMore
import Derived.OpenShut
import Derived.SizedLaws
import Derived.Stop.Joined
namespace Go.Proofs.YtabkbhmjblfajaaDoor.bitsLists
open Go.ChangeShapes Go.WideShapes Go.ChangeAt Go.RowKit
theorem own : ownKnob Tryd.prog.godebug = none := by kernel_rfl
theorem laidOut : laidOutB Tryd.prog = true := by kernel_rfl
theorem cells22 : Tryd.prog.cellsOf 22 = 1 := by kernel_rfl
theorem bytes22 : Tryd.prog.bytesOf 22 = 8 := by kernel_rfl
theorem spotN {w : World} {a : Addr} {v : Value} (h : w.cell? a = some v) : a.spot = none := by
  unfold World.cell? at h
  split at h
  · split at h
    · cases h
    · rename_i hs; simpa using hs
  · cases h
/-- A list that came in, opened once, nil or not. -/
theorem view {H : Type} {enc : TypeId × Value → H} {W : World} {fuel : Nat} {a0 : Option Addr} {len cap : Nat} {d : DataW H} {p : List MemPlace}
    (hf : DataW.trod enc Tryd.prog W 0 (fun _ => true) true fuel 46 (Value.slice a0 len cap).cells.toList = some (d, p)) :
    ∃ zs : List Nat, zs.length = len ∧ InS W (.slice a0 len cap) zs ∧ lim zs ∧ (len = 0 ∨ ∃ el sp, d = .slice el sp ∧ el.length = len) := by
  rcases open_ints Tryd.underlying46 Tryd.underlying22 cells22 hf with ⟨hcs, hx⟩ | ⟨a, len', cap', Z, hcs, _, hl, hm, hz, hx, hcell, hwz⟩
  · simp [Value.cells] at hcs
    obtain ⟨rfl, rfl, rfl⟩ := hcs
    exact ⟨[], rfl, ⟨_, _, rfl, fun h => absurd rfl h⟩, fun x hx => (by cases hx), Or.inl rfl⟩
  · simp [Value.cells] at hcs
    obtain ⟨rfl, rfl, rfl⟩ := hcs
    simp only [Prod.mk.injEq] at hx
    obtain ⟨rfl, rfl⟩ := hx
    simp only [if_true] at hz
    have bd : ∀ i, i < len → (0 : Int) ≤ Z.getD i 0 ∧ Z.getD i 0 ≤ 18446744073709551615 := fun i hi => by
      have e : Z.getD i 0 = Z[i] := by simp [List.getD, show i < Z.length by omega]
      rw [e]; exact bounds_u64 (hwz _ (List.getElem_mem _))
    have gt : ∀ i, i < len → (((Z.take len).map Int.toNat).getD i 0 : Int) = Z.getD i 0 := fun i hi => by
      have e : Z.getD i 0 = Z[i] := by simp [List.getD, show i < Z.length by omega]
      have b := bd i hi
      rw [e] at b ⊢
      simp [List.getD, hi, show i < Z.length by omega]
      omega
    have ln : ((Z.take len).map Int.toNat).length = len := by simp; omega
    refine ⟨(Z.take len).map Int.toNat, ln, ⟨some a, cap, by rw [ln], fun hne => ?_⟩, fun x hx => ?_, Or.inr ⟨_, _, rfl, by simp [lits]; omega⟩⟩
    · have h0 : 0 < len := by
        rcases Nat.eq_zero_or_pos len with h | h
        · exact absurd (List.eq_nil_of_length_eq_zero (by rw [ln, h])) hne
        · exact h
      have c0 := hcell 0 (by omega)
      obtain ⟨b, off, sp⟩ := a
      obtain rfl : sp = none := spotN c0
      refine ⟨b, off, rfl, cell_lt c0, fun i hi => ?_⟩
      rw [ln] at hi
      rw [gt i hi]
      have ea : (⟨b, off, none⟩ : Addr).add i = ⟨b, off + i, none⟩ := by
        unfold Addr.add
        by_cases h : i = 0
        · subst h; simp
        · simp [h]
      rw [← ea]
      exact hcell i (by omega)
    · obtain ⟨y, hy, rfl⟩ := List.mem_map.1 hx
      have := bounds_u64 (hwz y (List.mem_of_mem_take hy))
      omega
theorem door_met (os : Os) (args : Array Value) : laidMetH Tryd.prog Rows.bitsListsRow.laid ((World.doorLaid Tryd.prog 370 os).forCall (fun _ _ => 0) ⟨#[], args, []⟩).memory :=
  laidMetH_of_parts3 (fuel := 8) (laidMet_of_run' 8 (by kernel_rfl) (by kernel_rfl)) (by kernel_rfl) (by kernel_rfl)
set_option maxRecDepth 100000 in
theorem lifted (os : Os) (started : os.Started) (H : Type) (enc : TypeId × Value → H) :
    ReturnsInHanded {} Tryd.checked os 5 .any (fun w args => (Rows.bitsListsSpec.pre enc Tryd.prog Tryd.f5 [] false w args ∧ laidMetH Tryd.prog Rows.bitsListsRow.laid w) ∧ sizedMet enc Tryd.prog Tryd.f5 (OpenSpec.ofChange Rows.bitsListsSpec) false w args)
      (Rows.bitsListsSpec.post enc Tryd.prog Tryd.f5 false true false false) := by
  refine returnsInHanded_of_change_and (C := Tryd.checked) (X := fun w _ => laidMetH Tryd.prog Rows.bitsListsRow.laid w) (fun _ _ _ hh h => h.of_heap hh) own started (by kernel_rfl) Tryd.func5
    (ChangeSpec.witness_shaped (enc := enc) (C := Tryd.checked) (os := os) (X := fun w _ => laidMetH Tryd.prog Rows.bitsListsRow.laid w) false (World.doorLaid Tryd.prog 370 os) #[.slice none 0 0, .slice none 0 0] 8 rfl (World.shaped_of_RefB (by kernel_rfl) (by kernel_rfl)) (by kernel_rfl) (by kernel_rfl) (by kernel_rfl) (door_met os _)) ?_
  intro W base args ds gs before hval0 hW _ hsz0 hL _
  have hval : ∀ (j : Nat) t v, Tryd.f5.params[j]? = some t → args[j]? = some v → Value.okWide Tryd.prog W .any base t v := hval0
  have hsz : (DataW.weightsEach Tryd.prog (Tryd.f5.params.toList ++ Rows.bitsListsSpec.plain.varTypes Tryd.prog) (ds ++ gs)).all (· ≤ reachBytes) = true := hsz0
  have hW' := hW
  obtain ⟨p, q, hA0, hV, rfl, hfz, hnd⟩ := hW
  have hA : DataW.TrodAll enc Tryd.prog W 0 (fun _ => true) true Tryd.f5.params.toList args.toList ds p := hA0
  rw [Tryd.params5] at hA hval hsz
  obtain ⟨v0, vs0, d0, ds0, p0, q0, hargs, rfl, rfl, h0, r0⟩ := trodAll_cons hA
  obtain ⟨v1, vs1, d1, ds1, p1, q1, rfl, rfl, rfl, h1, r1⟩ := trodAll_cons r0
  obtain ⟨rfl, rfl, rfl⟩ := trodAll_nil r1
  obtain rfl : args = #[v0, v1] := by cases args; simp_all
  obtain ⟨rfl, rfl⟩ := trodVars_none hV
  have h0k := h0
  have h1k := h1
  obtain ⟨a0, n0, c0, rfl⟩ := okWide_slice Tryd.underlying46 (hval 0 46 v0 rfl rfl)
  obtain ⟨a1, n1, c1, rfl⟩ := okWide_slice Tryd.underlying46 (hval 1 46 v1 rfl rfl)
  obtain ⟨f0, h0⟩ := h0
  obtain ⟨f1, h1⟩ := h1
  obtain ⟨zs, rfl, i0, l0, e0⟩ := view h0
  obtain ⟨ys, rfl, i1, l1, e1⟩ := view h1
  have b0 : zs.length * 8 ≤ 140737488351232 := by
    rcases e0 with e | ⟨el, sp, rfl, hl⟩
    · omega
    · have := sized_slice hsz (j := 0) (t := 46) (e := 22) rfl rfl Tryd.underlying46
      rw [bytes22] at this
      simp only [reachBytes] at this
      omega
  have b1 : ys.length * 8 ≤ 140737488351232 := by
    rcases e1 with e | ⟨el, sp, rfl, hl⟩
    · omega
    · have := sized_slice hsz (j := 1) (t := 46) (e := 22) rfl rfl Tryd.underlying46
      rw [bytes22] at this
      simp only [reachBytes] at this
      omega
  clear hA0 hval0 hsz0
  refine (walk1 _ a1 c1 zs ys W i0 i1 l0 l1 b0 b1).mono fun e W' ⟨he, hg⟩ => ?_
  subst he
  have lt0 : ∀ x ∈ p0, x.block < W.heap.size := fun x hx => by simpa using hW'.lt x (by simp [hx])
  have lt1 : ∀ x ∈ p1, x.block < W.heap.size := fun x hx => by simpa using hW'.lt x (by simp [hx])
  exact ⟨_, rfl, _, _, _, [], p0 ++ (p1 ++ []), [], hW', trodAll_cons_mk (shut_bool Tryd.underlying4 _) trodAll_mk0,
    trodAll_cons_mk (Below.trod laidOut (by kernel_rfl) (of_decide_eq_true (by kernel_rfl)) h0k hg lt0) (trodAll_cons_mk (Below.trod laidOut (by kernel_rfl) (of_decide_eq_true (by kernel_rfl)) h1k hg lt1) trodAll_mk0), rfl, hg.frame _, fun h => by cases h⟩
theorem said : Rows.BitsListsSaid :=
  OpenClaim.holds_of_wide 5 Tryd.f5 rfl rfl rfl rfl rfl rfl rfl ⟨rfl, rfl, rfl, rfl, rfl⟩ rfl rfl rfl rfl rfl (by kernel_rfl) Tryd.func5 (by kernel_rfl)
    (of_decide_eq_true (by kernel_rfl)) (by unfold Func.isWrapper; first | (rw [if_pos (by decide +kernel)]; kernel_rfl) | (rw [if_neg (by decide +kernel)]; exact ⟨rfl, rfl⟩))
    (fun os started H enc _ => lifted os started H enc)
theorem plain (f : FuncId) (fn : Func) (hf : Tryd.pinned.checked.prog.funcNamed "timbre/timbrelaw01.BitsLists" = some f) (hfn : Tryd.pinned.checked.prog.funcs[f]? = some fn) :
    true = Tryd.pinned.checked.prog.looks [] ∧ ∀ (j : Nat) t, fn.params[j]? = some t → Tryd.pinned.checked.prog.wantsStandIn t = false := by
  obtain rfl : f = 5 := Option.some.inj ((show Tryd.prog.funcNamed "timbre/timbrelaw01.BitsLists" = some 5 by kernel_rfl).symm.trans hf) |>.symm
  obtain rfl : fn = Tryd.f5 := (Option.some.inj (Tryd.func5.symm.trans hfn)).symm
  refine ⟨by kernel_rfl, fun j t ht => ?_⟩
  rw [Tryd.params5] at ht
  have hm : t ∈ [46, 46] := by simpa using Array.mem_of_getElem? ht
  have hall : ([46, 46].all fun u => !Tryd.prog.wantsStandIn u) = true := by kernel_rfl
  exact (show Tryd.prog.wantsStandIn t = false by simpa using List.all_eq_true.1 hall t hm)
theorem card : Rows.BitsListsCardSaid :=
  Claim7.holds_tied_plain_at .later [] _ _ _ _ said (fun _ h => by cases h) (by kernel_rfl) (fun _ h => by cases h) bitsLists_row_tie rfl ⟨rfl, rfl⟩ (by kernel_rfl) rfl plain (by kernel_rfl)
end Go.Proofs.YtabkbhmjblfajaaDoor.bitsLists
namespace Go.Proofs.YtabkbhmjblfajaaDoor
theorem bitsLists_card : Rows.BitsListsCardSaid := bitsLists.card
end Go.Proofs.YtabkbhmjblfajaaDoor
