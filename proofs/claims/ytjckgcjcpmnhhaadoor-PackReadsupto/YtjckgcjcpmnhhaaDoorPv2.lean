/-
  The statements' own Values: listOf.
-/
import Derived.Test.YtjckgcjcpmnhhaaDoorPv1
import Derived.Deep.RegionHeld3
namespace Go.Proofs.YtjckgcjcpmnhhaaDoor
open Flo Go.RowKit
/-- two by two -/
def prs : List Nat → List (Nat × Nat)
  | a :: b :: l => (a, b) :: prs l
  | _ => []
/-- i pairs of the list -/
def pri (zs : List Nat) (i : Nat) : List (Nat × Nat) := (List.range i).map fun j => (zs.getD (2 * j) 0, zs.getD (2 * j + 1) 0)
theorem pri_succ (zs : List Nat) (i : Nat) : pri zs (i + 1) = pri zs i ++ [(zs.getD (2 * i) 0, zs.getD (2 * i + 1) 0)] := by
  unfold pri; rw [List.range_succ, List.map_append]; rfl
theorem pri_len (zs : List Nat) (i : Nat) : (pri zs i).length = i := by simp [pri]
/-- one value more, at the operation -/
theorem stepU {o : Oper} {a : Act} {K : Act → World → Prop} {Q : Exit → Act → World → Prop} (w : World) (s x : Operand) (t e : TypeId) (z : Value) (y : Nat)
    (ho : o.op = .call { callee := .builtin .append, args := #[s, x], argTypes := #[t, t] }) (ht : Tryd.prog.underlying t = some (.slice e)) (hinf : (Tryd.prog.info? e).map (fun i => (i.zero, i.size, i.bytes)) = some (some z, 1, y)) (hzc : z.cells.size = 1)
    (us : List Value) (u : Value) (hu1 : u.oneCell' = true) (q : Nat) (v : Value) (hs : a.eval s = v) (hx : a.eval x = .slice (some ⟨q, 0, none⟩) 1 1) (hrow : OwU e w v us)
    (hcell : w.cell? ⟨q, 0, none⟩ = some u) (hk : us.length + 1 ≤ 1048577) (hy : y ≤ 16)
    (h : ∀ v' w', OwU e w' v' (us ++ [u]) → w.grownBy w' v.ownBlock → (∀ b, v'.ownBlock = some b → v.ownBlock = some b ∨ w.heap.size ≤ b) → K (a.put o.dst v') w') : Oper.wp Tryd.prog o a w K Q := by
  obtain ⟨i0, hi0, hz0, hz1, hz2⟩ := info_parts hinf
  have hm : (us.length + 1) * y ≤ 1048577 * 16 := Nat.mul_le_mul hk hy
  obtain ⟨v', w', hr, h2, h3, h4⟩ := append_fr (P := Tryd.prog) w 0 t o.type e i0 z 1 y ht hi0 hz0 hz1 hz2 hzc (by decide) v us.length us hrow ⟨q, 0, none⟩ 1 1 [u] rfl (fun j u' hj => by
    match j, hj with
    | 0, hj => simp at hj; subst hj; simpa [Addr.add] using hcell) (fun u' hu => by simp at hu; subst hu; exact hu1) (by unfold maxLen; omega) (by omega) (Nat.zero_le _)
  unfold Oper.wp execOp
  simp only [ho, resolve, invoke, builtin, Sem.run_bind, Sem.run_pure, Result.andThen_ok, List.map_toArray, List.map_cons, List.map_nil, hs, hx, hr]
  refine h v' w' ?_ h3 h4
  unfold OwU
  rw [List.length_append]
  exact h2
set_option maxRecDepth 100000 in
set_option maxHeartbeats 4000000 in
theorem listOf_n (k n : Int) (u v : Nat) (s : ByteArray) (q o m lc : Nat) (zs : List Nat) (w : World) (hm : Hid (zs.length = m)) (hm2 : m ≤ 2097152) (hc : Hid (∀ i, i < zs.length → w.cell? ⟨q, o + i, none⟩ = some (.int .u64 (zs.getD i 0 : Nat)))) (hqw : m = 0 ∨ q < w.heap.size) :
    Calls Tryd.prog 22 #[vl k u v s (.slice (some ⟨q, o, none⟩) m lc) n] w fun e w' => ∃ v', e = .returned v' ∧ NewU 54 w w' v' (ccs (pri zs (m / 2))) ∧ Below w.heap.size w w' := by
  unfold vl
  have hqH : Hid (m = 0 ∨ q < w.heap.size) := hqw
  clear hqw
  obtain ⟨B, hB0⟩ : ∃ B, w.heap.size = B := ⟨_, rfl⟩
  have hB0H : Hid (w.heap.size = B) := hB0
  clear hB0
  go_enter Tryd.func22, Tryd.ntmps22
  go_wp2
  go_loopw [3, 4] (fun so si wr => ∃ i J : Nat, J = 2 * i ∧ si = .int .i64 (J : Int) ∧ i ≤ m / 2 ∧ Hid (NewU 54 w wr so (ccs (pri zs i))) ∧ Hid (Below w.heap.size w wr) ∧ Hid (wr.cell? ⟨w.heap.size, 4, none⟩ = some (.slice (some ⟨q, o, none⟩) m lc)) ∧ Hid (∀ b, so.ownBlock = some b → w.heap.size + 1 ≤ b)) (fun _ si _ => m - (intOf si).toNat)
  case atStart =>
    refine ⟨0, 0, rfl, rfl, Nat.zero_le _, ⟨?_, fun b hb => ?_⟩, ((Below.refl _ _).alloc (Nat.le_refl _) _).alloc (by simp) _, ?_, fun b hb => ?_⟩
    · have := World.ownsRow_made (base := 0) (e := 54) (size := 1) (w.alloc (.cells #[.int .i64 k, .int .u64 (u : Int), .int .u64 (v : Int), .string s, .slice (some ⟨q, o, none⟩) m lc, .int .i64 n] 30)) #[] 0 (Nat.zero_le _) (by decide) rfl
      simpa [OwU, ccs, pri] using this
    · cases hb; simp
    · simp [Hid]
    · cases hb; simp
  case round =>
    obtain ⟨i, J, hJ, rfl, hi, hN, hBl, hbx, hnb⟩ := hrel
    have hJH : Hid (J = 2 * i) := hJ
    clear hJ
    have hbx' := hbx.out
    by_cases hlt : J + 1 < m
    · have hlt' : (J : Int) + 1 < (m : Int) := by omega
      have hJ0 : (0 : Int) ≤ (J : Int) := by omega
      have hJm : (J : Int) < (m : Int) := by omega
      have hq2 : Hid (q < w.heap.size) := by have := hqH.out; show _ < _; omega
      have c1 : wr.cell? ⟨q, o + J, none⟩ = some (.int .u64 (zs.getD J 0 : Nat)) := (hBl.out.cell (p := ⟨q, o + J, none⟩) hq2.out).trans (hc.out J (by have := hm.out; omega))
      have c2 : wr.cell? ⟨q, o + (J + 1), none⟩ = some (.int .u64 (zs.getD (J + 1) 0 : Nat)) := (hBl.out.cell (p := ⟨q, o + (J + 1), none⟩) hq2.out).trans (hc.out (J + 1) (by have := hm.out; omega))
      have hnext : Hid (ccs (pri zs i) ++ [.complex .f64 (zs.getD J 0) (zs.getD (J + 1) 0)] = ccs (pri zs (i + 1))) := by
        show _ = _
        rw [pri_succ, hJH.out]; unfold ccs; rw [List.map_append]; rfl
      have hlen : Hid ((ccs (pri zs i)).length + 1 ≤ 1048577) := by show _ ≤ _; rw [ccs_len, pri_len]; omega
      generalize zs.getD J 0 = za at c1 hnext
      generalize zs.getD (J + 1) 0 = zb at c2 hnext
      obtain ⟨us, hus⟩ : ∃ us, us = ccs (pri zs i) := ⟨_, rfl⟩
      rw [← hus] at hN hlen hnext
      clear hus
      have ne1 : Hid (∀ b, u3.ownBlock = some b → b ≠ q ∧ b ≠ w.heap.size) := fun b hb => by have := hnb.out b hb; have := hq2.out; omega
      have hsz : Hid (w.heap.size < wr.heap.size) := World.block_lt_of_cell? wr _ hbx.out
      have hw1 : IntKind.i64.wrap ((J : Int) + 1) = (J : Int) + 1 := by rw [IntKind.wrap_i64]; omega
      have hJ2 : (0 : Int) ≤ (J : Int) + 1 := by omega
      have hJ3 : ((J : Int) + 1).toNat = J + 1 := by omega
      go_wp2_with fail
      refine wp_region_held_drew (S := fun W => W.cell? ⟨w.heap.size, 4, none⟩ = some (.slice (some ⟨q, o, none⟩) m lc) ∧ W.cell? ⟨q, o + J, none⟩ = some (.int .u64 (za : Int)) ∧ W.cell? ⟨q, o + (J + 1), none⟩ = some (.int .u64 (zb : Int))) (by kernel_rfl) ⟨hbx', c1, c2⟩ (fun hHeld => ?_)
      refine wpAnyH_take (i := 0) (oi := { dst := some 14, op := Go.Op.move (Go.Operand.tmp 3), type := 52, pos := "law.go:50", after := #[], guard := none }) (v := u3) rfl (by kernel_rfl) (by kernel_rfl) (by kernel_rfl) (fun _ _ _ h => h) (Or.inl ⟨by kernel_rfl, ?_⟩) hHeld ?_
      · intro W hW
        obtain ⟨s0, s1, s2⟩ := hW
        go_simp
      simp only [Act.put, List.setIfInBounds_toArray, List.set_cons_zero, List.set_cons_succ]
      refine wpAnyH_take (i := 1) (oi := { dst := some 15, op := Go.Op.fieldAddr 30 (Go.Operand.tmp 1) 4, type := 0, pos := "law.go:50", after := #[], guard := none }) (v := .pointer (some ⟨w.heap.size, 4, none⟩)) rfl (by kernel_rfl) (by kernel_rfl) (by kernel_rfl) (fun _ _ _ h => h) (Or.inl ⟨by kernel_rfl, ?_⟩) hHeld ?_
      · intro W hW
        obtain ⟨s0, s1, s2⟩ := hW
        go_simp
      simp only [Act.put, List.setIfInBounds_toArray, List.set_cons_zero, List.set_cons_succ]
      refine wpAnyH_take (i := 2) (oi := { dst := some 16, op := Go.Op.load 28 (Go.Operand.tmp 15), type := 28, pos := "law.go:50", after := #[{ on := 1, ground := Go.Ground.data }], guard := none }) (v := .slice (some ⟨q, o, none⟩) m lc) rfl (by kernel_rfl) (by kernel_rfl) (by kernel_rfl) (fun _ _ _ h => h) (Or.inl ⟨by kernel_rfl, ?_⟩) hHeld ?_
      · intro W hW
        obtain ⟨s0, s1, s2⟩ := hW
        go_simp
      simp only [Act.put, List.setIfInBounds_toArray, List.set_cons_zero, List.set_cons_succ]
      refine wpAnyH_take (i := 3) (oi := { dst := some 17, op := Go.Op.move (Go.Operand.tmp 4), type := 3, pos := "law.go:50", after := #[], guard := none }) (v := .int .i64 (J : Int)) rfl (by kernel_rfl) (by kernel_rfl) (by kernel_rfl) (fun _ _ _ h => h) (Or.inl ⟨by kernel_rfl, ?_⟩) hHeld ?_
      · intro W hW
        obtain ⟨s0, s1, s2⟩ := hW
        go_simp
      simp only [Act.put, List.setIfInBounds_toArray, List.set_cons_zero, List.set_cons_succ]
      refine wpAnyH_take (i := 4) (oi := { dst := some 18, op := Go.Op.indexAddr 28 (Go.Operand.tmp 16) (Go.Operand.tmp 17), type := 0, pos := "law.go:50", after := #[{ on := 2, ground := Go.Ground.data }, { on := 3, ground := Go.Ground.data }], guard := none }) (v := .pointer (some ⟨q, o + J, none⟩)) rfl (by kernel_rfl) (by kernel_rfl) (by kernel_rfl) (fun _ _ _ h => h) (Or.inl ⟨by kernel_rfl, ?_⟩) hHeld ?_
      · intro W hW
        obtain ⟨s0, s1, s2⟩ := hW
        go_simp
      simp only [Act.put, List.setIfInBounds_toArray, List.set_cons_zero, List.set_cons_succ]
      refine wpAnyH_take (i := 5) (oi := { dst := some 19, op := Go.Op.load 27 (Go.Operand.tmp 18), type := 27, pos := "law.go:50", after := #[{ on := 4, ground := Go.Ground.data }], guard := none }) (v := .int .u64 (za : Int)) rfl (by kernel_rfl) (by kernel_rfl) (by kernel_rfl) (fun _ _ _ h => h) (Or.inl ⟨by kernel_rfl, ?_⟩) hHeld ?_
      · intro W hW
        obtain ⟨s0, s1, s2⟩ := hW
        go_simp
      simp only [Act.put, List.setIfInBounds_toArray, List.set_cons_zero, List.set_cons_succ]
      refine wpAnyH_take (i := 7) (oi := { dst := some 21, op := Go.Op.fieldAddr 30 (Go.Operand.tmp 1) 4, type := 0, pos := "law.go:50", after := #[], guard := none }) (v := .pointer (some ⟨w.heap.size, 4, none⟩)) rfl (by kernel_rfl) (by kernel_rfl) (by kernel_rfl) (fun _ _ _ h => h) (Or.inl ⟨by kernel_rfl, ?_⟩) hHeld ?_
      · intro W hW
        obtain ⟨s0, s1, s2⟩ := hW
        go_simp
      simp only [Act.put, List.setIfInBounds_toArray, List.set_cons_zero, List.set_cons_succ]
      refine wpAnyH_take (i := 8) (oi := { dst := some 22, op := Go.Op.load 28 (Go.Operand.tmp 21), type := 28, pos := "law.go:50", after := #[{ on := 7, ground := Go.Ground.data }], guard := none }) (v := .slice (some ⟨q, o, none⟩) m lc) rfl (by kernel_rfl) (by kernel_rfl) (by kernel_rfl) (fun _ _ _ h => h) (Or.inl ⟨by kernel_rfl, ?_⟩) hHeld ?_
      · intro W hW
        obtain ⟨s0, s1, s2⟩ := hW
        go_simp
      simp only [Act.put, List.setIfInBounds_toArray, List.set_cons_zero, List.set_cons_succ]
      refine wpAnyH_take (i := 9) (oi := { dst := some 23, op := Go.Op.move (Go.Operand.tmp 4), type := 3, pos := "law.go:50", after := #[], guard := none }) (v := .int .i64 (J : Int)) rfl (by kernel_rfl) (by kernel_rfl) (by kernel_rfl) (fun _ _ _ h => h) (Or.inl ⟨by kernel_rfl, ?_⟩) hHeld ?_
      · intro W hW
        obtain ⟨s0, s1, s2⟩ := hW
        go_simp
      simp only [Act.put, List.setIfInBounds_toArray, List.set_cons_zero, List.set_cons_succ]
      refine wpAnyH_take (i := 10) (oi := { dst := some 24, op := Go.Op.binOp Go.BinOp.add 3 (Go.Operand.tmp 23) (Go.Operand.const (Go.Value.int Go.IntKind.i64 1)) 3, type := 3, pos := "law.go:50", after := #[{ on := 9, ground := Go.Ground.data }], guard := none }) (v := .int .i64 ((J : Int) + 1)) rfl (by kernel_rfl) (by kernel_rfl) (by kernel_rfl) (fun _ _ _ h => h) (Or.inl ⟨by kernel_rfl, ?_⟩) hHeld ?_
      · intro W hW
        obtain ⟨s0, s1, s2⟩ := hW
        go_simp
      simp only [Act.put, List.setIfInBounds_toArray, List.set_cons_zero, List.set_cons_succ]
      refine wpAnyH_take (i := 11) (oi := { dst := some 25, op := Go.Op.indexAddr 28 (Go.Operand.tmp 22) (Go.Operand.tmp 24), type := 0, pos := "law.go:50", after := #[{ on := 8, ground := Go.Ground.data }, { on := 10, ground := Go.Ground.data }], guard := none }) (v := .pointer (some ⟨q, o + (J + 1), none⟩)) rfl (by kernel_rfl) (by kernel_rfl) (by kernel_rfl) (fun _ _ _ h => h) (Or.inl ⟨by kernel_rfl, ?_⟩) hHeld ?_
      · intro W hW
        obtain ⟨s0, s1, s2⟩ := hW
        go_simp
      simp only [Act.put, List.setIfInBounds_toArray, List.set_cons_zero, List.set_cons_succ]
      refine wpAnyH_take (i := 12) (oi := { dst := some 26, op := Go.Op.load 27 (Go.Operand.tmp 25), type := 27, pos := "law.go:50", after := #[{ on := 11, ground := Go.Ground.data }], guard := none }) (v := .int .u64 (zb : Int)) rfl (by kernel_rfl) (by kernel_rfl) (by kernel_rfl) (fun _ _ _ h => h) (Or.inl ⟨by kernel_rfl, ?_⟩) hHeld ?_
      · intro W hW
        obtain ⟨s0, s1, s2⟩ := hW
        go_simp
      simp only [Act.put, List.setIfInBounds_toArray, List.set_cons_zero, List.set_cons_succ]
      refine wpAnyH_ready (rs := [6]) (by kernel_rfl) (by simp) ?_
      refine AllReadyH.cons (o := { dst := some 20, op := Go.Op.call { callee := Go.Callee.value (Go.Operand.func 35), args := #[Go.Operand.tmp 19], argTypes := #[27] }, type := 61, pos := "law.go:50", after := #[{ on := 5, ground := Go.Ground.data }], guard := none }) rfl (fun K0 hK0 => ?_) AllReadyH.nil
      rw [if_pos (by kernel_rfl)]
      go_wp2_with fail
      refine (lawof_c za _).mono ?_
      rintro e w' ⟨rfl, rfl⟩
      refine hK0.out _ _ ⟨hbx', c1, c2⟩ (fun hHeld => ?_)
      clear hK0 K0
      try simp only [Act.put, List.setIfInBounds_toArray, List.set_cons_zero, List.set_cons_succ]
      refine wpAnyH_ready (rs := [13]) (by kernel_rfl) (by simp) ?_
      refine AllReadyH.cons (o := { dst := some 27, op := Go.Op.call { callee := Go.Callee.value (Go.Operand.func 35), args := #[Go.Operand.tmp 26], argTypes := #[27] }, type := 61, pos := "law.go:50", after := #[{ on := 12, ground := Go.Ground.data }, { on := 6, ground := Go.Ground.chain }], guard := none }) rfl (fun K0 hK0 => ?_) AllReadyH.nil
      rw [if_pos (by kernel_rfl)]
      go_wp2_with fail
      refine (lawof_c zb _).mono ?_
      rintro e w' ⟨rfl, rfl⟩
      refine hK0.out _ _ ⟨hbx', c1, c2⟩ (fun hHeld => ?_)
      clear hK0 K0
      try simp only [Act.put, List.setIfInBounds_toArray, List.set_cons_zero, List.set_cons_succ]
      refine wpAnyH_take (i := 14) (oi := { dst := some 28, op := Go.Op.call { callee := Go.Callee.builtin Go.Builtin.complex, args := #[Go.Operand.tmp 20, Go.Operand.tmp 27], argTypes := #[61, 61] }, type := 54, pos := "law.go:50", after := #[{ on := 6, ground := Go.Ground.data }, { on := 13, ground := Go.Ground.data }], guard := none }) (v := .complex .f64 za zb) rfl (by kernel_rfl) (by kernel_rfl) (by kernel_rfl) (fun _ _ _ h => h) (Or.inl ⟨by kernel_rfl, ?_⟩) hHeld ?_
      · intro W hW
        obtain ⟨s0, s1, s2⟩ := hW
        go_simp
      simp only [Act.put, List.setIfInBounds_toArray, List.set_cons_zero, List.set_cons_succ]
      refine wpAnyH_ready (rs := [15]) (by kernel_rfl) (by simp) ?_
      refine AllReadyH.cons (o := { dst := some 29, op := Go.Op.buildSlice 52 1 #[(0, Go.Operand.tmp 28)], type := 52, pos := "law.go:50", after := #[{ on := 14, ground := Go.Ground.data }], guard := none }) rfl (fun K0 hK0 => ?_) AllReadyH.nil
      rw [if_pos (by kernel_rfl)]
      go_wp2_with fail
      refine hK0.out _ _ ⟨(World.cell?_alloc_lt wr _ ⟨w.heap.size, 4, none⟩ hsz.out).trans hbx', (World.cell?_alloc_lt wr _ ⟨q, o + J, none⟩ (World.block_lt_of_cell? wr _ c1)).trans c1, (World.cell?_alloc_lt wr _ ⟨q, o + (J + 1), none⟩ (World.block_lt_of_cell? wr _ c2)).trans c2⟩ (fun hHeld => ?_)
      clear hK0 K0
      try simp only [Act.put, List.setIfInBounds_toArray, List.set_cons_zero, List.set_cons_succ]
      refine wpAnyH_ready (rs := [16]) (by kernel_rfl) (by simp) ?_
      refine AllReadyH.cons (o := { dst := some 30, op := Go.Op.call { callee := Go.Callee.builtin Go.Builtin.append, args := #[Go.Operand.tmp 14, Go.Operand.tmp 29], argTypes := #[52, 52] }, type := 52, pos := "law.go:50", after := #[{ on := 0, ground := Go.Ground.data }, { on := 15, ground := Go.Ground.data }, { on := 13, ground := Go.Ground.chain }], guard := none }) rfl (fun K0 hK0 => ?_) AllReadyH.nil
      rw [if_pos (by kernel_rfl)]
      refine stepU _ _ _ 52 54 (.complex .f64 0 0) 16 rfl Tryd.underlying52 infoC rfl us (.complex .f64 za zb) rfl wr.heap.size u3 rfl rfl (World.ownsRow.alloc (w := wr) hN.out.own _) (by simp) hlen.out (by decide) ?_
      intro v5 w5 ho hgr hn
      have hoH : Hid (OwU 54 w5 v5 (us ++ [.complex .f64 za zb])) := ho
      have hgH : Hid ((wr.alloc (.cells #[.complex .f64 za zb] 54)).drew.grownBy w5 u3.ownBlock) := hgr
      have hnH : Hid (∀ b, v5.ownBlock = some b → u3.ownBlock = some b ∨ wr.heap.size + 1 ≤ b) := by simpa [Hid] using hn
      have d0 := hgH.out.cell (a := ⟨w.heap.size, 4, none⟩) ((World.cell?_alloc_lt wr _ ⟨w.heap.size, 4, none⟩ hsz.out).trans hbx') (fun e => (ne1.out _ e.symm).2 rfl)
      have d1 := hgH.out.cell (a := ⟨q, o + J, none⟩) ((World.cell?_alloc_lt wr _ ⟨q, o + J, none⟩ (World.block_lt_of_cell? wr _ c1)).trans c1) (fun e => (ne1.out _ e.symm).1 rfl)
      have d2 := hgH.out.cell (a := ⟨q, o + (J + 1), none⟩) ((World.cell?_alloc_lt wr _ ⟨q, o + (J + 1), none⟩ (World.block_lt_of_cell? wr _ c2)).trans c2) (fun e => (ne1.out _ e.symm).1 rfl)
      clear ho hgr hn
      refine hK0.out _ _ ⟨d0, d1, d2⟩ (fun hHeld => ?_)
      clear hK0 K0
      try simp only [Act.put, List.setIfInBounds_toArray, List.set_cons_zero, List.set_cons_succ]
      clear hbx'
      refine wpAnyH_take (i := 17) (oi := { dst := some 3, op := Go.Op.assign (Go.Operand.tmp 30), type := 52, pos := "law.go:50", after := #[{ on := 16, ground := Go.Ground.data }, { on := 16, ground := Go.Ground.chain }, { on := 0, ground := Go.Ground.phase }, { on := 1, ground := Go.Ground.phase }, { on := 2, ground := Go.Ground.phase }, { on := 3, ground := Go.Ground.phase }, { on := 4, ground := Go.Ground.phase }, { on := 5, ground := Go.Ground.phase }, { on := 6, ground := Go.Ground.phase }, { on := 7, ground := Go.Ground.phase }, { on := 8, ground := Go.Ground.phase }, { on := 9, ground := Go.Ground.phase }, { on := 10, ground := Go.Ground.phase }, { on := 11, ground := Go.Ground.phase }, { on := 12, ground := Go.Ground.phase }, { on := 13, ground := Go.Ground.phase }, { on := 14, ground := Go.Ground.phase }, { on := 15, ground := Go.Ground.phase }, { on := 16, ground := Go.Ground.phase }], guard := none }) (v := v5) rfl (by kernel_rfl) (by kernel_rfl) (by kernel_rfl) (fun _ _ _ h => h) (Or.inl ⟨by kernel_rfl, ?_⟩) hHeld ?_
      · intro W hW
        obtain ⟨s0, s1, s2⟩ := hW
        go_simp
      simp only [Act.put, List.setIfInBounds_toArray, List.set_cons_zero, List.set_cons_succ]
      refine wpAnyH_done (by kernel_rfl) ?_ _
      have hN2 : Hid (NewU 54 w w5 v5 (ccs (pri zs (i + 1))) ∧ Below w.heap.size w w5) := by
        rw [← hnext.out]
        exact hN.out.app hBl.out (((Below.refl wr.heap.size wr).alloc (Nat.le_refl _) _).drew) hoH.out hgH.out (by simpa using hnH.out)
      have hnb2 : Hid (∀ b, v5.ownBlock = some b → w.heap.size + 1 ≤ b) := fun b hb => by
        rcases hnH.out b hb with h7 | h7
        · exact hnb.out b h7
        · have := hsz.out; omega
      have hbx5 : Hid (w5.cell? ⟨w.heap.size, 4, none⟩ = some (.slice (some ⟨q, o, none⟩) m lc)) := d0
      clear hoH hgH hnH hN hBl hnext hHeld d0 d1 d2
      go_wp2
      go_roundw
      case rel => exact ⟨i + 1, J + 2, by have := hJH.out; omega, by go_num, by have := hJH.out; omega, hN2.out.1, hN2.out.2, hbx5, hnb2⟩
      case measure => simp [intOf]; omega
    · have hlt' : decide ((J : Int) + 1 < (m : Int)) = false := decide_eq_false (by omega)
      have hlt2 : ¬ J + 1 < m := hlt
      have hJb : J ≤ 2097152 := by have := hJH.out; omega
      have hfin : Hid (ccs (pri zs i) = ccs (pri zs (m / 2))) := by show _ = _; rw [show i = m / 2 by have := hJH.out; omega]
      go_wp2
      go_ret
      exact ⟨_, rfl, by rw [← hfin.out]; exact hN.out, hBl.out⟩
end Go.Proofs.YtjckgcjcpmnhhaaDoor
