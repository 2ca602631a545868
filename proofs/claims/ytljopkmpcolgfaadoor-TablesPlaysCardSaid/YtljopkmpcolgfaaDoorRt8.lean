/-
  The document's Tables of layer 8: in memory; ask.
-/
import Derived.Test.YtljopkmpcolgfaaDoorTh8
import Derived.Test.YtljopkmpcolgfaaDoorPz7
import Derived.Deep.RegionHeld3
import Derived.Maps.AppendAt
namespace Go.Proofs.YtljopkmpcolgfaaDoor
open Flo Go.RowKit Go.Maps Go.MuLone
/-- where n comes to lie -/
theorem ins_at {n : Nat} : ∀ {ks : List Nat} {i : Nat}, i ≤ ks.length → (∀ j, j < i → ks.getD j 0 < n) → (i < ks.length → n < ks.getD i 0) → ins n ks = ks.take i ++ n :: ks.drop i
  | [], i, hi, _, _ => by
    have : i = 0 := by simpa using hi
    subst this; rfl
  | y :: r, 0, _, _, h => by
    have : n < y := by simpa [List.getD] using h (by simp)
    simp [ins, this]
  | y :: r, i + 1, hi, h1, h2 => by
    have hy : y < n := by simpa [List.getD] using h1 0 (by omega)
    have := ins_at (n := n) (ks := r) (i := i) (by simpa using hi) (fun j hj => by simpa [List.getD] using h1 (j + 1) (by omega)) (fun hl => by simpa [List.getD] using h2 (by simpa using hl))
    unfold ins
    rw [if_neg (by omega), if_neg (by omega), this]
    simp
/-- not there -/
theorem not_at {n : Nat} {ks : List Nat} (hs : ks.Pairwise (· < ·)) {i : Nat} (h1 : ∀ j, j < i → ks.getD j 0 < n) (h2 : i < ks.length → n < ks.getD i 0) : n ∉ ks := by
  intro hm
  obtain ⟨j, hj, e⟩ := List.getElem_of_mem hm
  have ej : ks.getD j 0 = n := by simp [List.getD, hj, e]
  rcases Nat.lt_or_ge j i with c | c
  · have := h1 j c; omega
  · have hi : i < ks.length := by omega
    have := h2 hi
    rcases Nat.lt_or_ge i j with d | d
    · have := srt_at hs d hj; omega
    · rw [show j = i by omega] at ej; omega
/-- the list while places are moved -/
def shf (ks : List Nat) (k : Nat) : List Nat := ks.take k ++ (ks ++ [0]).getD k 0 :: ks.drop k
theorem shf_len {ks : List Nat} {k : Nat} (h : k ≤ ks.length) : (shf ks k).length = ks.length + 1 := by simp [shf]; omega
theorem shf_end (ks : List Nat) : shf ks ks.length = ks ++ [0] := by simp [shf, List.getD]
theorem shf_get {ks : List Nat} {k : Nat} (h : k + 1 ≤ ks.length) : (shf ks (k + 1)).getD k 0 = ks.getD k 0 := by
  have h2 : k < min (k + 1) ks.length := by omega
  simp [shf, List.getD, List.getElem?_append, h2, show k < ks.length by omega]
theorem shf_step {ks : List Nat} {k : Nat} (h : k + 1 ≤ ks.length) : (shf ks (k + 1)).set (k + 1) (ks.getD k 0) = shf ks k := by
  have hk : k < ks.length := by omega
  have e1 : (ks.take (k + 1)).length = k + 1 := by simp; omega
  unfold shf
  rw [List.set_append_right _ _ (by omega), e1, Nat.sub_self, List.set_cons_zero]
  have e2 : (ks ++ [0]).getD k 0 = ks.getD k 0 := by simp [List.getD, List.getElem?_append, hk]
  have e3 : ks.getD k 0 = ks[k] := by simp [List.getD, hk]
  rw [e2, e3, List.take_succ_eq_append_getElem hk, List.append_assoc, List.drop_eq_getElem_cons hk]
  simp
theorem shf_put {n : Nat} {ks : List Nat} {i : Nat} (hi : i ≤ ks.length) (h1 : ∀ j, j < i → ks.getD j 0 < n) (h2 : i < ks.length → n < ks.getD i 0) : (shf ks i).set i n = ins n ks := by
  rw [ins_at hi h1 h2]
  unfold shf
  have e1 : (ks.take i).length = i := by simp; omega
  rw [List.set_append_right _ _ (by omega), e1, Nat.sub_self, List.set_cons_zero]
theorem il_set (ks : List Nat) (k n : Nat) : (il ks).set k (.int .i64 (n : Int)) = il (ks.set k n) := by simp [il, List.map_set]
/-- the document's Tables at block r, its list as it stands -/
structure RL (F : Nat → Prop) (w : World) (r : Nat) (v : Value) (ks : List Nat) (made : Nat) : Prop where
  c0 : w.cell? ⟨r, 0, none⟩ = some v
  c1 : w.cell? ⟨r, 1, none⟩ = some (.int .i64 (made : Int))
  f0 : w.frozen? ⟨r, 0, none⟩ = false
  f1 : w.frozen? ⟨r, 1, none⟩ = false
  own : w.ownsRow 0 3 1 v ks.length (il ks)
  ne : v.ownBlock ≠ some r
  fr : F r
  fv : ∀ b, v.ownBlock = some b → F b
/-- and rising -/
structure RV (F : Nat → Prop) (w : World) (r : Nat) (v : Value) (ks : List Nat) (made : Nat) : Prop extends RL F w r v ks made where
  srt : ks.Pairwise (· < ·)
  bds : ∀ x ∈ ks, 1 ≤ x ∧ x ≤ 16384
def RT (F : Nat → Prop) (w : World) (r : Nat) (ks : List Nat) (made : Nat) : Prop := ∃ v, RV F w r v ks made
section
variable {F G S : Nat → Prop} {w w' : World} {r made : Nat} {v : Value} {ks : List Nat}
theorem RL.lt (h : RL F w r v ks made) : r < w.heap.size := World.block_lt_of_cell? w _ h.c0
theorem RV.few (h : RV F w r v ks made) : ks.length ≤ 16384 := by
  have := srt_few ks 1 16384 h.srt h.bds
  omega
theorem RL.under (h : RL F w r v ks made) (hf : Fr S w w') (hS : ∀ k, k < w.heap.size → S k → ¬ F k) : RL F w' r v ks made :=
  ⟨hf.cell h.c0 fun hs => hS _ h.lt hs h.fr, hf.cell h.c1 fun hs => hS _ h.lt hs h.fr, (hf.frozen h.lt fun hs => hS _ h.lt hs h.fr).trans h.f0, (hf.frozen h.lt fun hs => hS _ h.lt hs h.fr).trans h.f1,
    hf.owns h.own fun b hb hs => hS b (h.own.lt b hb).2 hs (h.fv b hb), h.ne, h.fr, h.fv⟩
theorem RL.to (h : RL F w r v ks made) (hG : ∀ k, k < w.heap.size → F k → G k) : RL G w r v ks made :=
  ⟨h.c0, h.c1, h.f0, h.f1, h.own, h.ne, hG _ h.lt h.fr, fun b hb => hG b (h.own.lt b hb).2 (h.fv b hb)⟩
theorem RV.under (h : RV F w r v ks made) (hf : Fr S w w') (hS : ∀ k, k < w.heap.size → S k → ¬ F k) : RV F w' r v ks made := ⟨h.toRL.under hf hS, h.srt, h.bds⟩
theorem RV.to (h : RV F w r v ks made) (hG : ∀ k, k < w.heap.size → F k → G k) : RV G w r v ks made := ⟨h.toRL.to hG, h.srt, h.bds⟩
theorem RT.under (h : RT F w r ks made) (hf : Fr S w w') (hS : ∀ k, k < w.heap.size → S k → ¬ F k) : RT F w' r ks made := by
  obtain ⟨v, h⟩ := h; exact ⟨v, h.under hf hS⟩
theorem RT.to (h : RT F w r ks made) (hG : ∀ k, k < w.heap.size → F k → G k) : RT G w r ks made := by
  obtain ⟨v, h⟩ := h; exact ⟨v, h.to hG⟩
/-- the list as it is seen -/
theorem RL.cells (h : RL F w r v ks made) : ∃ ao cap, v = .slice ao ks.length cap ∧ (ks ≠ [] → ∃ g, ao = some ⟨g, 0, none⟩ ∧ ∀ j, j < ks.length → w.cell? ⟨g, j, none⟩ = some (.int .i64 ((ks.getD j 0 : Nat) : Int))) :=
  thr_cells (F := fun _ => False) (N := 0) ⟨h.own, fun _ _ h => h⟩
/-- a new list -/
theorem RL.put0 {v' : Value} {ks' : List Nat} (h : RL F w r v ks made) (ho : w.ownsRow 0 3 1 v' ks'.length (il ks')) (hn : v'.ownBlock ≠ some r) (hv : ∀ b, v'.ownBlock = some b → F b) : RL F (w.setCell ⟨r, 0, none⟩ v') r v' ks' made := by
  exact ⟨World.cell?_setCell_same _ _ _ h.c0, (World.cell?_setCell_other _ _ _ _ (by simp)).trans h.c1, by rw [World.frozen?_setCell]; exact h.f0, by rw [World.frozen?_setCell]; exact h.f1, ownsRow_setCell_other ho (by simpa using hn) _, hn, h.fr, hv⟩
theorem RL.put1 (h : RL F w r v ks made) (m' : Nat) : RL F (w.setCell ⟨r, 1, none⟩ (.int .i64 (m' : Int))) r v ks m' := by
  exact ⟨(World.cell?_setCell_other _ _ _ _ (by simp)).trans h.c0, World.cell?_setCell_same _ _ _ h.c1, by rw [World.frozen?_setCell]; exact h.f0, by rw [World.frozen?_setCell]; exact h.f1, ownsRow_setCell_other h.own (by simpa using h.ne) _, h.ne, h.fr, h.fv⟩
theorem RL.store {g m cap k : Nat} (h : RL F w r (.slice (some ⟨g, 0, none⟩) m cap) ks made) (x : Nat) : RL F (w.setCell ⟨g, k, none⟩ (.int .i64 (x : Int))) r (.slice (some ⟨g, 0, none⟩) m cap) (ks.set k x) made ∧ Fr F w (w.setCell ⟨g, k, none⟩ (.int .i64 (x : Int))) := by
  have hg : g ≠ r := fun e => h.ne (by simp [Value.ownBlock, e])
  have e0 : (⟨g, k, none⟩ : Addr) ≠ ⟨r, 0, none⟩ := by intro e; exact hg (congrArg Addr.block e)
  have e1 : (⟨g, k, none⟩ : Addr) ≠ ⟨r, 1, none⟩ := by intro e; exact hg (congrArg Addr.block e)
  obtain ⟨ao, cap', e, _⟩ := h.cells
  have hl : m = ks.length := by injection e
  subst hl
  have hs := (h.own.stored k (.int .i64 (x : Int))).1
  rw [il_set] at hs
  refine ⟨⟨(World.cell?_setCell_other _ _ _ _ e0).trans h.c0, (World.cell?_setCell_other _ _ _ _ e1).trans h.c1, by rw [World.frozen?_setCell]; exact h.f0, by rw [World.frozen?_setCell]; exact h.f1, by rw [List.length_set]; exact hs, h.ne, h.fr, h.fv⟩, (Fr.refl _ w).setCell (p := ⟨g, k, none⟩) (h.fv g rfl) _⟩
theorem RL.drew (h : RL F w r v ks made) : RL F w.drew r v ks made := ⟨h.c0, h.c1, h.f0, h.f1, h.own, h.ne, h.fr, h.fv⟩
/-- one place more -/
theorem RL.push {x : Nat} {o : Obj} {w4 : World} {v' : Value} (h : RL F w r v ks made) (hF : ∀ k, w.heap.size ≤ k → F k) (ho : w4.ownsRow 0 3 1 v' (ks.length + 1) (il ks ++ [.int .i64 (x : Int)])) (hg : (w.alloc o).grownBy w4 v.ownBlock)
    (hat : v'.ownBlock = v.ownBlock ∨ v'.ownBlock = some (w.heap.size + 1)) :
    RL F (w4.setCell ⟨r, 0, none⟩ v') r v' (ks ++ [x]) made ∧ Fr F w (w4.setCell ⟨r, 0, none⟩ v') ∧ w4.cell? ⟨r, 0, none⟩ = some v ∧ w4.frozen? ⟨r, 0, none⟩ = false := by
  have hS : Fr (fun k => v.ownBlock = some k) w w4 := ((Fr.refl _ w).alloc o).grown hg fun k hk => hk
  have hn : v'.ownBlock ≠ some r := by
    rcases hat with e | e
    · rw [e]; exact h.ne
    · rw [e]; intro e'; have e'' := Option.some.inj e'; have := h.lt; omega
  have hv : ∀ b, v'.ownBlock = some b → F b := by
    intro b hb
    rcases hat with e | e
    · exact h.fv b (e ▸ hb)
    · rw [e] at hb; have e'' := Option.some.inj hb; exact hF b (by omega)
  have d0 := hS.cell h.c0 (fun e => h.ne e)
  have d1 := hS.cell h.c1 (fun e => h.ne e)
  have g0 := (hS.frozen (p := ⟨r, 0, none⟩) h.lt (fun e => h.ne e)).trans h.f0
  have g1 := (hS.frozen (p := ⟨r, 1, none⟩) h.lt (fun e => h.ne e)).trans h.f1
  refine ⟨⟨World.cell?_setCell_same _ _ _ d0, (World.cell?_setCell_other _ _ _ _ (by simp)).trans d1, by rw [World.frozen?_setCell]; exact g0, by rw [World.frozen?_setCell]; exact g1, ?_, hn, h.fr, hv⟩, (hS.mono fun k _ hk => h.fv k hk).setCell (p := ⟨r, 0, none⟩) h.fr _, d0, g0⟩
  rw [il_snoc, List.length_append]
  exact ownsRow_setCell_other ho (by simpa using hn) _
end
theorem askNo_c (r : Nat) (n : Int) (w : World) (hn : inn n = false) :
    Calls Tryd.prog 38 #[.pointer (some ⟨r, 0, none⟩), .int .i64 n] w fun e w' => e = .returned (.int .i64 7) ∧ w' = w := by
  have h' : ¬ (1 ≤ n ∧ n ≤ 16384) := of_decide_eq_false hn
  clear hn
  by_cases h1 : n < 1
  · clear h'
    go_enter Tryd.func38, Tryd.ntmps38
    go_wp2
    go_ret
    exact ⟨rfl, rfl⟩
  · have h1' : decide (n < 1) = false := decide_eq_false h1
    have h2 : n > 16384 := by omega
    clear h'
    go_enter Tryd.func38, Tryd.ntmps38
    go_wp2
    go_ret
    exact ⟨rfl, rfl⟩
section
variable {F : Nat → Prop} {w : World} {r made : Nat} {ks : List Nat}
set_option maxRecDepth 100000 in
set_option maxHeartbeats 8000000 in
theorem ask_c (h : RT F w r ks made) (n : Nat) (h1 : 1 ≤ n) (h2 : n ≤ 16384) (hm : made < 4611686018427387904) (hF : ∀ k, w.heap.size ≤ k → F k) :
    Calls Tryd.prog 38 #[.pointer (some ⟨r, 0, none⟩), .int .i64 (n : Int)] w fun e w' => e = .returned (.int .i64 0) ∧ RT F w' r (ins n ks) (nm n ks made) ∧ Fr F w w' := by
  obtain ⟨v, h⟩ := h
  have hV : Hid (RV F w r v ks made) := h
  have cc0 := h.c0
  have g1 : decide ((n : Int) < 1) = false := decide_eq_false (by omega)
  have g2 : decide ((n : Int) > 16384) = false := decide_eq_false (by omega)
  have hfew := h.few
  obtain ⟨ao, cap, rfl, hcl⟩ := h.cells
  have hcl' : Hid (ks ≠ [] → ∃ g, ao = some ⟨g, 0, none⟩ ∧ ∀ j, j < ks.length → w.cell? ⟨g, j, none⟩ = some (.int .i64 ((ks.getD j 0 : Nat) : Int))) := hcl
  obtain ⟨m, hm'⟩ : ∃ m, Hid (ks.length = m) := ⟨_, rfl⟩
  obtain ⟨i0, hi0, hz0, hz1, hz2⟩ := info_parts infoInt
  rw [hm'.out] at cc0 hV hfew
  clear h hcl
  go_enter Tryd.func38, Tryd.ntmps38
  go_wp2_with fail
  go_loopw [5] (fun si wx => ∃ i : Nat, i ≤ m ∧ si = .int .i64 (i : Int) ∧ wx = w ∧ Hid (∀ j, j < i → ks.getD j 0 < n)) (fun si _ => m - (RowKit.intOf si).toNat)
  case atStart => exact ⟨0, Nat.zero_le _, rfl, rfl, fun j hj => absurd hj (by omega)⟩
  case round =>
    obtain ⟨i, him, rfl, rfl, hlow⟩ := hrel
    by_cases hlt : i < m
    · have hlt' : (i : Int) < (m : Int) := by omega
      obtain ⟨g, rfl, hcg⟩ := hcl'.out (fun e => by have := hm'.out; rw [e] at this; simp at this; omega)
      have cg := hcg i (by rw [hm'.out]; exact hlt)
      clear hcg
      by_cases hq : ks.getD i 0 < n
      · have hq' : ((ks.getD i 0 : Nat) : Int) < (n : Int) := by omega
        have hlow2 : Hid (∀ j, j < i + 1 → ks.getD j 0 < n) := fun j hj => if c : j < i then hlow.out j c else by rw [show j = i by omega]; exact hq
        generalize ks.getD i 0 = x at *
        go_wp2_with fail
        go_roundw
        case rel => exact ⟨i + 1, by omega, by go_num, by first | rfl | trivial, hlow2⟩
        case measure => simp [RowKit.intOf]; omega
      · have hq' : decide (((ks.getD i 0 : Nat) : Int) < (n : Int)) = false := decide_eq_false (by omega)
        by_cases he : ks.getD i 0 = n
        · have hin : n ∈ ks := by
            have hl : i < ks.length := by rw [hm'.out]; exact hlt
            rw [← he]; simp [List.getD, hl]
          have hv : Hid (RT F wr r (ins n ks) (nm n ks made)) := (by rw [ins_in hV.out.srt hin, nm_in hin]; exact ⟨_, hV.out⟩ : RT F wr r (ins n ks) (nm n ks made))
          rw [he] at cg hq'
          clear hin hq
          go_wp2_with fail
          go_ret
          exact ⟨rfl, hv.out, Fr.refl _ _⟩
        · have he' : (((ks.getD i 0 : Nat) : Int) == (n : Int)) = false := beq_eq_false_iff_ne.2 (by omega)
          have hgt : Hid (i < ks.length → n < ks.getD i 0) := fun _ => by omega
          have hins : Hid ((shf ks i).set i n = ins n ks) := shf_put (by rw [hm'.out]; exact him) hlow.out hgt.out
          have hno : Hid (n ∉ ks) := not_at hV.out.srt hlow.out hgt.out
          clear hlow hgt
          generalize ks.getD i 0 = x at *
          clear he
          have hRL := hV.out.toRL
          have hown0 := hRL.own
          rw [hm'.out] at hown0
          have hRL' : Hid (RL F wr r _ ks made) := hRL
          clear hcl' hRL
          go_wp2_with (at_builtin; refine wpList_append_own_at _ rfl _ _ 28 rfl 0 3 i0 (.int .i64 0) 1 8 Tryd.underlying28 hi0 hz0 hz1 hz2 rfl (by decide) _ _ _ rfl (hown0.alloc _) ⟨wr.heap.size, 0, none⟩ 1 1 [.int .i64 0] rfl rfl (cell_one_new _ _ _) (by simp [Value.oneCell']) (by unfold maxLen; omega) (by omega) (by simp) ?_)
          intro v' w4 hown' hgrow _ hat
          rw [← hm'.out] at hown'
          obtain ⟨R4, Fr4, c4, f4⟩ := hRL'.out.push (x := 0) hF hown' hgrow hat
          obtain ⟨ao4, cap4, e4, hc4⟩ := R4.cells
          obtain ⟨g4, rfl, _⟩ := hc4 (by simp)
          have e5 : (ks ++ [0]).length = m + 1 := by simp [hm'.out]
          rw [e5] at e4
          subst e4
          rw [← shf_end ks, hm'.out] at R4
          have R4' : Hid (RL F (w4.setCell ⟨r, 0, none⟩ (.slice (some ⟨g4, 0, none⟩) (m + 1) cap4)) r (.slice (some ⟨g4, 0, none⟩) (m + 1) cap4) (shf ks m) made) := R4
          have Fr4' : Hid (Fr F wr (w4.setCell ⟨r, 0, none⟩ (.slice (some ⟨g4, 0, none⟩) (m + 1) cap4))) := Fr4
          have hsb : Hid (ks.Pairwise (· < ·) ∧ ∀ x ∈ ks, 1 ≤ x ∧ x ≤ 16384) := ⟨hV.out.srt, hV.out.bds⟩
          rw [← hm'.out] at c4
          rw [hm'.out] at c4
          clear R4 Fr4 hown' hgrow hat hown0 e5 hc4 hRL' hV
          go_wp2_with fail
          obtain ⟨wa, ewa⟩ : ∃ wa, wa = wr := ⟨_, rfl⟩
          subst ewa
          go_loopw [6] (fun sk wx => ∃ k : Nat, i ≤ k ∧ k ≤ m ∧ sk = .int .i64 (k : Int) ∧ Hid (RL F wx r (.slice (some ⟨g4, 0, none⟩) (m + 1) cap4) (shf ks k) made) ∧ Hid (Fr F wa wx)) (fun sk _ => (RowKit.intOf sk).toNat)
          case atStart => exact ⟨m, him, Nat.le_refl _, by go_num, R4', Fr4'⟩
          case round =>
            obtain ⟨k, hik, hkm, rfl, R, hfr⟩ := hrel
            have d0 := R.out.c0
            by_cases hk : i < k
            · obtain ⟨j, rfl⟩ : ∃ j, k = j + 1 := ⟨k - 1, by omega⟩
              have hjl : j + 1 ≤ ks.length := by rw [hm'.out]; exact hkm
              obtain ⟨ao5, cap5, e5, hc5⟩ := R.out.cells
              obtain ⟨g5, e6, hc6⟩ := hc5 (fun e => by have := shf_len hjl; rw [e] at this; simp at this)
              have e7 : g5 = g4 := by rw [e6] at e5; injection e5 with e5; injection e5 with e5; injection e5 with e5; exact e5.symm
              subst e7
              have d1 := hc6 j (by rw [shf_len hjl]; omega)
              rw [shf_get hjl] at d1
              have d2 := hc6 (j + 1) (by rw [shf_len hjl]; omega)
              have ho3 := R.out.own
              rw [shf_len hjl, hm'.out] at ho3
              have d3 := ho3.frozenAt (j + 1)
              obtain ⟨S1, S2⟩ := R.out.store (k := j + 1) (ks.getD j 0)
              rw [shf_step hjl] at S1
              have S1' : Hid (RL F (wr.setCell ⟨g5, j + 1, none⟩ (.int .i64 ((ks.getD j 0 : Nat) : Int))) r (.slice (some ⟨g5, 0, none⟩) (m + 1) cap4) (shf ks j) made) := S1
              have S2' : Hid (Fr F wa (wr.setCell ⟨g5, j + 1, none⟩ (.int .i64 ((ks.getD j 0 : Nat) : Int)))) := hfr.out.then S2
              have hne : g5 ≠ r := fun e => R.out.ne (by rw [e]; rfl)
              generalize (shf ks (j + 1)).getD (j + 1) 0 = y at *
              generalize ks.getD j 0 = z at *
              have hk1 : (i : Int) < (j : Int) + 1 := by omega
              have hwj := wrap_small j (by omega)
              have hj1 : (j : Int) < (m : Int) + 1 := by omega
              have hj2 : (j : Int) < (m : Int) := by omega
              clear hc5 hc6 e5 e6 S1 S2 R hfr R4' Fr4' hjl ho3 hins hno hsb
              go_wp2_with fail
              go_region
              all_goals (
                go_wp2
                refine ⟨⟨j, by omega, by omega, by go_num, S1'.out.drew, S2'.out.drew⟩, ?_⟩
                simp [RowKit.intOf])
            · have hk' : k = i := by omega
              subst hk'
              have hkl : k ≤ ks.length := by rw [hm'.out]; exact hkm
              have ho3 := R.out.own
              rw [shf_len hkl, hm'.out] at ho3
              have d3 := ho3.frozenAt k
              obtain ⟨y, d2⟩ : ∃ y, wr.cell? ⟨g4, k, none⟩ = some y := ⟨_, (ho3.cellAt k (by omega)).trans (il_get (shf ks k) k (by rw [shf_len hkl]; omega))⟩
              obtain ⟨S1, S2⟩ := R.out.store (k := k) n
              rw [hins.out] at S1
              have P1 := S1.put1 (made + 1)
              have P2 := (hfr.out.then S2).setCell (p := ⟨r, 1, none⟩) S1.fr (.int .i64 ((made + 1 : Nat) : Int))
              have s0 := S1.c0
              have s1 := S1.c1
              have s3 := S1.f1
              have hmm : ((made : Int) + 1) = ((made + 1 : Nat) : Int) := by omega
              have hP : Hid (RT F ((wr.setCell ⟨g4, k, none⟩ (.int .i64 (n : Int))).setCell ⟨r, 1, none⟩ (.int .i64 ((made : Int) + 1))) r (ins n ks) (nm n ks made)) := by
                rw [hmm, nm_out hno.out]
                exact ⟨_, P1, ins_srt hsb.out.1, fun x hx => (mem_ins.1 hx).elim (fun e => by rw [e]; exact ⟨h1, h2⟩) (hsb.out.2 x)⟩
              have hQ : Hid (Fr F wa ((wr.setCell ⟨g4, k, none⟩ (.int .i64 (n : Int))).setCell ⟨r, 1, none⟩ (.int .i64 ((made : Int) + 1)))) := by
                rw [hmm]; exact P2
              have hne : g4 ≠ r := fun e => R.out.ne (by rw [e]; rfl)
              have hk0 : decide ((k : Int) > (k : Int)) = false := decide_eq_false (by omega)
              have hk1 : (k : Int) < (m : Int) + 1 := by omega
              clear P1 P2 S1 S2 hmm ho3 R hfr R4' Fr4' hins hno hsb hik hk
              go_wp2_with fail
              go_ret
              exact ⟨rfl, hP.out, hQ.out⟩
    · have hlt' : decide ((i : Int) < (m : Int)) = false := decide_eq_false (by omega)
      have hgt : Hid (i < ks.length → n < ks.getD i 0) := fun hl => absurd hl (by have := hm'.out; omega)
      have hins : Hid ((shf ks i).set i n = ins n ks) := shf_put (by rw [hm'.out]; exact him) hlow.out hgt.out
      have hno : Hid (n ∉ ks) := not_at hV.out.srt hlow.out hgt.out
      clear hlow hgt
      have hRL := hV.out.toRL
      have hown0 := hRL.own
      rw [hm'.out] at hown0
      have hRL' : Hid (RL F wr r _ ks made) := hRL
      clear hcl' hRL
      go_wp2_with (at_builtin; refine wpList_append_own_at _ rfl _ _ 28 rfl 0 3 i0 (.int .i64 0) 1 8 Tryd.underlying28 hi0 hz0 hz1 hz2 rfl (by decide) _ _ _ rfl (hown0.alloc _) ⟨wr.heap.size, 0, none⟩ 1 1 [.int .i64 0] rfl rfl (cell_one_new _ _ _) (by simp [Value.oneCell']) (by unfold maxLen; omega) (by omega) (by simp) ?_)
      intro v' w4 hown' hgrow _ hat
      rw [← hm'.out] at hown'
      obtain ⟨R4, Fr4, c4, f4⟩ := hRL'.out.push (x := 0) hF hown' hgrow hat
      obtain ⟨ao4, cap4, e4, hc4⟩ := R4.cells
      obtain ⟨g4, rfl, _⟩ := hc4 (by simp)
      have e5 : (ks ++ [0]).length = m + 1 := by simp [hm'.out]
      rw [e5] at e4
      subst e4
      rw [← shf_end ks, hm'.out] at R4
      have R4' : Hid (RL F (w4.setCell ⟨r, 0, none⟩ (.slice (some ⟨g4, 0, none⟩) (m + 1) cap4)) r (.slice (some ⟨g4, 0, none⟩) (m + 1) cap4) (shf ks m) made) := R4
      have Fr4' : Hid (Fr F wr (w4.setCell ⟨r, 0, none⟩ (.slice (some ⟨g4, 0, none⟩) (m + 1) cap4))) := Fr4
      have hsb : Hid (ks.Pairwise (· < ·) ∧ ∀ x ∈ ks, 1 ≤ x ∧ x ≤ 16384) := ⟨hV.out.srt, hV.out.bds⟩
      rw [← hm'.out] at c4
      rw [hm'.out] at c4
      clear R4 Fr4 hown' hgrow hat hown0 e5 hc4 hRL' hV
      go_wp2_with fail
      obtain ⟨wa, ewa⟩ : ∃ wa, wa = wr := ⟨_, rfl⟩
      subst ewa
      go_loopw [6] (fun sk wx => ∃ k : Nat, i ≤ k ∧ k ≤ m ∧ sk = .int .i64 (k : Int) ∧ Hid (RL F wx r (.slice (some ⟨g4, 0, none⟩) (m + 1) cap4) (shf ks k) made) ∧ Hid (Fr F wa wx)) (fun sk _ => (RowKit.intOf sk).toNat)
      case atStart => exact ⟨m, him, Nat.le_refl _, by go_num, R4', Fr4'⟩
      case round =>
        obtain ⟨k, hik, hkm, rfl, R, hfr⟩ := hrel
        have d0 := R.out.c0
        by_cases hk : i < k
        · exact absurd hk (by omega)
        · have hk' : k = i := by omega
          subst hk'
          have hkl : k ≤ ks.length := by rw [hm'.out]; exact hkm
          have ho3 := R.out.own
          rw [shf_len hkl, hm'.out] at ho3
          have d3 := ho3.frozenAt k
          obtain ⟨y, d2⟩ : ∃ y, wr.cell? ⟨g4, k, none⟩ = some y := ⟨_, (ho3.cellAt k (by omega)).trans (il_get (shf ks k) k (by rw [shf_len hkl]; omega))⟩
          obtain ⟨S1, S2⟩ := R.out.store (k := k) n
          rw [hins.out] at S1
          have P1 := S1.put1 (made + 1)
          have P2 := (hfr.out.then S2).setCell (p := ⟨r, 1, none⟩) S1.fr (.int .i64 ((made + 1 : Nat) : Int))
          have s0 := S1.c0
          have s1 := S1.c1
          have s3 := S1.f1
          have hmm : ((made : Int) + 1) = ((made + 1 : Nat) : Int) := by omega
          have hP : Hid (RT F ((wr.setCell ⟨g4, k, none⟩ (.int .i64 (n : Int))).setCell ⟨r, 1, none⟩ (.int .i64 ((made : Int) + 1))) r (ins n ks) (nm n ks made)) := by
            rw [hmm, nm_out hno.out]
            exact ⟨_, P1, ins_srt hsb.out.1, fun x hx => (mem_ins.1 hx).elim (fun e => by rw [e]; exact ⟨h1, h2⟩) (hsb.out.2 x)⟩
          have hQ : Hid (Fr F wa ((wr.setCell ⟨g4, k, none⟩ (.int .i64 (n : Int))).setCell ⟨r, 1, none⟩ (.int .i64 ((made : Int) + 1)))) := by
            rw [hmm]; exact P2
          have hne : g4 ≠ r := fun e => R.out.ne (by rw [e]; rfl)
          have hk0 : decide ((k : Int) > (k : Int)) = false := decide_eq_false (by omega)
          have hk1 : (k : Int) < (m : Int) + 1 := by omega
          clear P1 P2 S1 S2 hmm ho3 R hfr R4' Fr4' hins hno hsb hik hk
          go_wp2_with fail
          go_ret
          exact ⟨rfl, hP.out, hQ.out⟩
end
end Go.Proofs.YtljopkmpcolgfaaDoor
namespace Go.Proofs.YtljopkmpcolgfaaDoor
open Flo Go.RowKit Go.Maps Go.MuLone
theorem md_md {n : Nat} (k : Int) (h : 0 < n) : Rp.md n ((Rp.md n k : Nat) : Int) = Rp.md n k := by
  apply Int.ofNat.inj
  show ((Rp.md n ((Rp.md n k : Nat) : Int) : Nat) : Int) = ((Rp.md n k : Nat) : Int)
  rw [Rp.md_eq h, Rp.md_eq h, Int.emod_emod]
theorem refAtNo_c (r : Nat) (n k : Int) (w : World) (hn : inn n = false) :
    Calls Tryd.prog 23 #[.pointer (some ⟨r, 0, none⟩), .int .i64 n, .int .i64 k] w fun e w' => e = .returned (.tuple #[.complex .f64 0 0, .int .i64 7]) ∧ w' = w := by
  go_enter Tryd.func23, Tryd.ntmps23
  go_wp2_with fail
  refine (askNo_c r n w hn).mono ?_
  rintro e w1 ⟨rfl, rfl⟩
  go_wp2_with fail
  go_ret2
  exact ⟨rfl, rfl⟩
theorem refListNo_c (r : Nat) (n : Int) (w : World) (hn : inn n = false) :
    Calls Tryd.prog 24 #[.pointer (some ⟨r, 0, none⟩), .int .i64 n] w fun e w' => e = .returned (.tuple #[.slice none 0 0, .int .i64 7]) ∧ w' = w := by
  go_enter Tryd.func24, Tryd.ntmps24
  go_wp2_with fail
  refine (askNo_c r n w hn).mono ?_
  rintro e w1 ⟨rfl, rfl⟩
  go_wp2_with fail
  go_ret2
  exact ⟨rfl, rfl⟩
section
variable {F : Nat → Prop} {w : World} {r made : Nat} {ks : List Nat}
theorem RT.drewN (h : RT F w r ks made) (d : Nat) : RT F (w.drewN d) r ks made := by
  obtain ⟨v, h⟩ := h
  exact ⟨v, ⟨h.c0, h.c1, h.f0, h.f1, h.own, h.ne, h.fr, h.fv⟩, h.srt, h.bds⟩
theorem Fr.drewN {S : Nat → Prop} {a b : World} (h : Fr S a b) (d : Nat) : Fr S a (b.drewN d) := by
  exact ⟨h.os, h.tape, h.output, h.size, h.block⟩
theorem refAt_c (h : RT F w r ks made) (n : Nat) (k : Int) (h1 : 1 ≤ n) (h2 : n ≤ 16384) (hm : made < 4611686018427387904) (hF : ∀ k, w.heap.size ≤ k → F k) :
    Calls Tryd.prog 23 #[.pointer (some ⟨r, 0, none⟩), .int .i64 (n : Int), .int .i64 k] w fun e w' => e = .returned (.tuple #[.complex .f64 (Rp.pc n (Rp.md n k)) (Rp.pim n (Rp.md n k)), .int .i64 0]) ∧ RT F w' r (ins n ks) (nm n ks made) ∧ Fr F w w' := by
  have ha := ask_c h n h1 h2 hm hF
  have ha' : Hid (Calls Tryd.prog 38 #[.pointer (some ⟨r, 0, none⟩), .int .i64 (n : Int)] w fun e w' => e = .returned (.int .i64 0) ∧ RT F w' r (ins n ks) (nm n ks made) ∧ Fr F w w') := ha
  clear ha h hF
  go_enter Tryd.func23, Tryd.ntmps23
  go_wp2_with fail
  refine ha'.out.mono ?_
  rintro e w1 ⟨rfl, R1, F1⟩
  have R1' : Hid (RT F w1 r (ins n ks) (nm n ks made)) := R1
  have F1' : Hid (Fr F w w1) := F1
  clear R1 F1 ha'
  go_wp2_with fail
  refine (mod7_c n k _ (by omega) (by omega)).mono ?_
  rintro e w2 ⟨rfl, rfl⟩
  go_wp2_with fail
  refine (r7Root_c n _ _ (by omega) (by omega)).mono ?_
  rw [md_md k (by omega)]
  rintro e w3 ⟨rfl, d, rfl⟩
  have R3 : Hid (RT F (w2.drewN d) r (ins n ks) (nm n ks made)) := R1'.out.drewN d
  have F3 : Hid (Fr F w (w2.drewN d)) := F1'.out.drewN d
  generalize w2.drewN d = w4 at *
  go_wp2_with fail
  go_ret2
  exact ⟨rfl, R3.out, F3.out⟩
theorem refList_c (h : RT F w r ks made) (n : Nat) (h1 : 1 ≤ n) (h2 : n ≤ 16384) (hm : made < 4611686018427387904) (hF : ∀ k, w.heap.size ≤ k → F k) :
    Calls Tryd.prog 24 #[.pointer (some ⟨r, 0, none⟩), .int .i64 (n : Int)] w fun e w' => ∃ wm G C, e = .returned (.tuple #[.slice (some ⟨G, 0, none⟩) n C, .int .i64 0]) ∧ RT F wm r (ins n ks) (nm n ks made) ∧ Fr F w wm ∧ Below wm.heap.size wm w' ∧ wm.heap.size ≤ G ∧ Cel w' G n := by
  have ha := ask_c h n h1 h2 hm hF
  have ha' : Hid (Calls Tryd.prog 38 #[.pointer (some ⟨r, 0, none⟩), .int .i64 (n : Int)] w fun e w' => e = .returned (.int .i64 0) ∧ RT F w' r (ins n ks) (nm n ks made) ∧ Fr F w w') := ha
  clear ha h hF
  go_enter Tryd.func24, Tryd.ntmps24
  go_wp2_with fail
  refine ha'.out.mono ?_
  rintro e w1 ⟨rfl, R1, F1⟩
  have R1' : Hid (RT F w1 r (ins n ks) (nm n ks made)) := R1
  have F1' : Hid (Fr F w w1) := F1
  clear R1 F1 ha'
  go_wp2_with fail
  refine (r7AllOk_c n _ (by omega) h2).mono ?_
  rintro e w3 ⟨G, C, rfl, hG, hC, hB⟩
  have hC' : Hid (Cel w3 G n) := hC
  have hB' : Hid (Below w1.heap.size w1 w3) := hB
  have hG' : Hid (w1.heap.size ≤ G) := hG
  clear hC hB hG
  go_wp2_with fail
  go_ret2
  exact ⟨w1, G, C, rfl, R1'.out, F1'.out, hB'.out, hG'.out, hC'.out⟩
/-- what a drop leaves -/
def dz (n : Int) (ks : List Nat) : List Nat := ks.filter fun x => ((x : Int) != n)
theorem dz_yes {n : Int} {i : Nat} (hi : i < ks.length) (h : ¬ ((ks.getD i 0 : Nat) : Int) = n) : dz n (ks.take (i + 1)) = dz n (ks.take i) ++ [ks.getD i 0] := by
  have e : ks.getD i 0 = ks[i] := by simp [List.getD, hi]
  rw [e] at h ⊢
  rw [List.take_succ_eq_append_getElem hi]
  unfold dz
  rw [List.filter_append]
  congr 1
  simp [h]
theorem dz_no {n : Int} {i : Nat} (hi : i < ks.length) (h : ((ks.getD i 0 : Nat) : Int) = n) : dz n (ks.take (i + 1)) = dz n (ks.take i) := by
  have e : ks.getD i 0 = ks[i] := by simp [List.getD, hi]
  rw [e] at h
  rw [List.take_succ_eq_append_getElem hi]
  unfold dz
  rw [List.filter_append]
  simp [h]
theorem dz_len (n : Int) (i : Nat) : (dz n (ks.take i)).length ≤ i := by
  have := List.length_filter_le (fun x : Nat => ((x : Int) != n)) (ks.take i)
  have h2 : (ks.take i).length ≤ i := by simp; omega
  unfold dz; omega
set_option maxRecDepth 100000 in
set_option maxHeartbeats 4000000 in
theorem refDrop_c (h : RT F w r ks made) (n : Int) (hF : ∀ k, w.heap.size ≤ k → F k) :
    Calls Tryd.prog 25 #[.pointer (some ⟨r, 0, none⟩), .int .i64 n] w fun e w' => e = .returned (.bool (decide ((dz n ks).length < ks.length))) ∧ RT F w' r (dz n ks) made ∧ Fr F w w' := by
  obtain ⟨v, h⟩ := h
  have hV : Hid (RV F w r v ks made) := h
  have hfew := h.few
  obtain ⟨ao, cap, rfl, hcl⟩ := h.cells
  have hcl' : Hid (ks ≠ [] → ∃ g, ao = some ⟨g, 0, none⟩ ∧ ∀ j, j < ks.length → w.cell? ⟨g, j, none⟩ = some (.int .i64 ((ks.getD j 0 : Nat) : Int))) := hcl
  obtain ⟨m, hm'⟩ : ∃ m, Hid (ks.length = m) := ⟨_, rfl⟩
  obtain ⟨i0, hi0, hz0, hz1, hz2⟩ := info_parts infoInt
  rw [hm'.out] at hV hfew
  have hF' : Hid (∀ k, w.heap.size ≤ k → F k) := hF
  clear h hcl hF
  go_enter Tryd.func25, Tryd.ntmps25
  go_wp2_with fail
  go_loopw [5, 6] (fun so si wx => ∃ i : Nat, i ≤ m ∧ si = .int .i64 (i : Int) ∧ Hid (wx.ownsRow w.heap.size 3 1 so (dz n (ks.take i)).length (il (dz n (ks.take i)))) ∧ Hid (Below w.heap.size w wx)) (fun _ si _ => m - (RowKit.intOf si).toNat)
  case atStart => exact ⟨0, Nat.zero_le _, rfl, World.ownsRow_nil _ _ _ _, Below.refl _ _⟩
  case round =>
    obtain ⟨i, him, rfl, O, B⟩ := hrel
    have hfr : Fr (fun _ => False) w wr := Fr.of_below B.out fun k h1 h2 => absurd h1 (by omega)
    have hR : Hid (RL F wr r (.slice ao m cap) ks made) := hV.out.toRL.under hfr fun _ _ h => h.elim
    clear hfr
    have cc0 := hR.out.c0
    obtain ⟨oo, oc, e, _⟩ := thr_cells (F := fun _ => False) (N := w.heap.size) ⟨O.out, fun _ _ h => h⟩
    obtain ⟨q, hq⟩ : ∃ q, Hid ((dz n (ks.take i)).length = q) := ⟨_, rfl⟩
    rw [hq.out] at e O
    subst e
    have hqi : q ≤ i := by rw [← hq.out]; exact dz_len n i
    by_cases hlt : i < m
    · have hlt' : (i : Int) < (m : Int) := by omega
      have hil : i < ks.length := by rw [hm'.out]; exact hlt
      obtain ⟨g, rfl, hcg⟩ := hcl'.out (fun e => by rw [e] at hil; simp at hil)
      have cg := (Fr.of_below (S := fun _ => False) B.out fun k h1 h2 => absurd h1 (by omega)).cell (hcg i hil) (fun h => h)
      clear hcg
      by_cases hx : ((ks.getD i 0 : Nat) : Int) = n
      · have hd := dz_no hil hx
        have hN : Hid ((wr.ownsRow w.heap.size 3 1 (.slice oo q oc) (dz n (ks.take (i + 1))).length (il (dz n (ks.take (i + 1)))))) := by rw [hd, hq.out]; exact O.out
        rw [hx] at cg
        clear hd hx O hil
        go_wp2_with fail
        go_roundw
        case rel => exact ⟨i + 1, by omega, by go_num, hN, B⟩
        case measure => simp [RowKit.intOf]; omega
      · have hd := dz_yes hil hx
        have hx' : (((ks.getD i 0 : Nat) : Int) == n) = false := beq_eq_false_iff_ne.2 hx
        have hx2 : (((ks.getD i 0 : Nat) : Int) != n) = true := by rw [bne, hx']; rfl
        have hd' : Hid (dz n (ks.take (i + 1)) = dz n (ks.take i) ++ [ks.getD i 0]) := hd
        have O' := O.out
        have hsz := B.out.size
        generalize ks.getD i 0 = x at *
        clear hd hil
        go_wp2_with (at_builtin; refine wpList_append_own_at _ rfl _ _ 28 rfl w.heap.size 3 i0 (.int .i64 0) 1 8 Tryd.underlying28 hi0 hz0 hz1 hz2 rfl (by decide) _ _ _ rfl (O'.alloc _) ⟨wr.heap.size, 0, none⟩ 1 1 [.int .i64 (x : Int)] rfl rfl (cell_one_new _ _ _) (by simp [Value.oneCell']) (by unfold maxLen; omega) (by omega) (by simp; omega) ?_)
        intro v' w4 hown' hgrow _ hat
        have O4 : Hid (w4.ownsRow w.heap.size 3 1 v' (dz n (ks.take (i + 1))).length (il (dz n (ks.take (i + 1))))) := by
          rw [hd'.out, il_snoc, List.length_append, hq.out]; exact hown'
        have B4 : Hid (Below w.heap.size w w4) := (B.out.alloc hsz _).grown hgrow (by simp; omega) (fun k hk => (O'.lt k hk).1)
        clear hown' hgrow hat O'
        go_wp2_with fail
        go_roundw
        case rel => exact ⟨i + 1, by omega, by go_num, O4, B4⟩
        case measure => simp [RowKit.intOf]; omega
    · have hlt' : decide ((i : Int) < (m : Int)) = false := decide_eq_false (by omega)
      have him' : i = m := by omega
      subst him'
      have ht : ks.take i = ks := by rw [← hm'.out]; exact List.take_length
      rw [ht] at hq O
      have f0 := hR.out.f0
      have hn : (Value.slice oo q oc).ownBlock ≠ some r := fun e => by have := (O.out.lt r e).1; have := hV.out.toRL.lt; omega
      have P := hR.out.put0 (v' := .slice oo q oc) (ks' := dz n ks) (by rw [hq.out]; exact own_base O.out (Nat.zero_le _)) hn (fun b hb => hF'.out b (O.out.lt b hb).1)
      have P' : Hid (RT F (wr.setCell ⟨r, 0, none⟩ (.slice oo q oc)) r (dz n ks) made) := ⟨_, P, hV.out.srt.filter _, fun x hx => hV.out.bds x (List.mem_filter.1 hx).1⟩
      have Q' : Hid (Fr F w (wr.setCell ⟨r, 0, none⟩ (.slice oo q oc))) := (Fr.of_below B.out fun k h1 h2 => absurd h1 (by omega)).setCell (p := ⟨r, 0, none⟩) hV.out.fr _
      have hw : Hid (decide (q < i) = decide ((dz n ks).length < ks.length)) := by rw [hq.out, hm'.out]; exact rfl
      clear P ht hV hcl' O B hR
      go_wp2_with fail
      go_ret
      exact ⟨by rw [hw.out]; rfl, P'.out, Q'.out⟩
/-- a length that is there, or not -/
theorem dz_nat (n : Nat) (hs : ks.Pairwise (· < ·)) : dz (n : Int) ks = del n ks ∧ decide ((dz (n : Int) ks).length < ks.length) = decide (n ∈ ks) := by
  have e : dz (n : Int) ks = del n ks := by
    unfold dz del
    apply List.filter_congr
    intro x _
    by_cases c : x = n
    · subst c; simp
    · have c' : ¬ (x : Int) = (n : Int) := by omega
      show (!((x : Int) == (n : Int))) = (!(x == n))
      rw [beq_eq_false_iff_ne.2 c, beq_eq_false_iff_ne.2 c']
  refine ⟨e, ?_⟩
  rw [e]
  by_cases c : n ∈ ks
  · have := del_len hs c
    rw [decide_eq_true c]; exact decide_eq_true (by omega)
  · rw [del_out c, decide_eq_false c]; exact decide_eq_false (by omega)
theorem dz_out (n : Int) (hn : inn n = false) (hb : ∀ x ∈ ks, 1 ≤ x ∧ x ≤ 16384) : dz n ks = ks := by
  have h' : ¬ (1 ≤ n ∧ n ≤ 16384) := of_decide_eq_false hn
  apply List.filter_eq_self.2
  intro x hx
  have := hb x hx
  have c : ¬ (x : Int) = n := by omega
  show (!((x : Int) == n)) = true
  rw [beq_eq_false_iff_ne.2 c]; rfl
end
end Go.Proofs.YtljopkmpcolgfaaDoor
