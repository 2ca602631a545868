/-
  A list of the statement's own beside a Tables.
-/
import Derived.Test.YtljopkmpcolgfaaDoorSw8
import Derived.Maps.AppendAt
namespace Go.Proofs.YtljopkmpcolgfaaDoor
open Flo Go.RowKit Go.Maps Go.MuLone
/-- a list that can be read, of bools -/
def RdB (w : World) (v : Value) (zs : List Bool) : Prop :=
  ∃ ao cap, v = .slice ao zs.length cap ∧ (zs ≠ [] → ∃ b off, ao = some ⟨b, off, none⟩ ∧ b < w.heap.size ∧ ∀ i, i < zs.length → w.cell? ⟨b, off + i, none⟩ = some (.bool (zs.getD i false)))
theorem n200 (z : Int) : ∃ n : Nat, 1 ≤ n ∧ n ≤ 200 ∧ wrap64 (1 + wrap64 ((IntKind.u64.wrap z).tmod 200)) = (n : Int) := by
  refine ⟨(1 + z % 18446744073709551616 % 200).toNat, by omega, by omega, ?_⟩
  rw [IntKind.wrap_u64, Int.tmod_eq_emod_of_nonneg (by omega)]
  unfold wrap64
  omega
theorem n300 (z : Int) : ∃ n : Nat, 1 ≤ n ∧ n ≤ 300 ∧ wrap64 (1 + wrap64 ((IntKind.u64.wrap z).tmod 300)) = (n : Int) := by
  refine ⟨(1 + z % 18446744073709551616 % 300).toNat, by omega, by omega, ?_⟩
  rw [IntKind.wrap_u64, Int.tmod_eq_emod_of_nonneg (by omega)]
  unfold wrap64
  omega
/-- the value's own block is not of F -/
def Off (F : Nat → Prop) (v : Value) : Prop := ∀ g, v.ownBlock = some g → ¬ F g
/-- a list of the statement's own, its block not of F -/
structure Thr (F : Nat → Prop) (N : Nat) (w : World) (v : Value) (th : List Nat) : Prop where
  own : w.ownsRow N 3 1 v th.length (il th)
  off : Off F v
section
variable {F : Nat → Prop} {N t bm made : Nat} {w w' : World} {v : Value} {th ks : List Nat}
theorem thr_cells (h : Thr F N w v th) : ∃ ao cap, v = .slice ao th.length cap ∧ (th ≠ [] → ∃ g, ao = some ⟨g, 0, none⟩ ∧ ∀ j, j < th.length → w.cell? ⟨g, j, none⟩ = some (.int .i64 ((th.getD j 0 : Nat) : Int))) := by
  have h := h.own
  rcases h.2 with ⟨h1, h2⟩ | ⟨g, cap, cur, rfl, h1, h2, h3⟩
  · exact ⟨none, 0, by rw [h1, h2], fun hz => absurd (List.length_eq_zero_iff.1 h2) hz⟩
  · refine ⟨_, cap, rfl, fun _ => ⟨g, rfl, fun j hj => ?_⟩⟩
    rw [h.cellAt j (by omega), il_get th j hj]
theorem Thr.cell {g j cap q : Nat} (h : Thr F N w (.slice (some ⟨g, 0, none⟩) j cap) th) (hq : q < th.length) : w.cell? ⟨g, q, none⟩ = some (.int .i64 ((th.getD q 0 : Nat) : Int)) := by
  obtain ⟨ao, cap', e, hc⟩ := thr_cells h
  obtain ⟨g', e', hc'⟩ := hc (fun e => by rw [e] at hq; simp at hq)
  rw [e'] at e
  cases e
  exact hc' q hq
theorem Thr.fr (H : Thr F N w v th) (T : TB F w t bm ks made) (hf : Fr (tb t bm) w w') : Thr F N w' v th :=
  ⟨hf.owns H.own fun b hb hs => by rcases hs with rfl | rfl; exact H.off _ hb T.ft; exact H.off _ hb T.fb, H.off⟩
theorem Thr.below (H : Thr F N w v th) (hb : Below w.heap.size w w') : Thr F N w' v th := ⟨own_blw H.own hb, H.off⟩
theorem Thr.wide (H : Thr F N w v th) : Thr (fun k => F k ∨ w.heap.size ≤ k) N w v th :=
  ⟨H.own, fun g hg hF => hF.elim (H.off g hg) fun h => by have := (H.own.lt g hg).2; omega⟩
theorem TBx.wide {s : Int} (T : TBx F w t bm s ks made) : TBx (fun k => F k ∨ w.heap.size ≤ k) w t bm s ks made := T.to fun _ _ h => .inl h
theorem thr_nil (F : Nat → Prop) (N : Nat) (w : World) : Thr F N w (.slice none 0 0) [] := ⟨World.ownsRow_nil _ _ _ _, fun g hg => (by cases hg)⟩
/-- one number more -/
theorem thr_push {n : Nat} {o : Obj} {wA : World} {v' : Value} (T : TB F w t bm ks made) (H : Thr F N w v th) (ho : wA.ownsRow N 3 1 v' (th.length + 1) (il th ++ [.int .i64 (n : Int)])) (hg : (w.alloc o).grownBy wA v.ownBlock)
    (hat : v'.ownBlock = v.ownBlock ∨ v'.ownBlock = some (w.heap.size + 1)) {a : World} (hb : Below N a w) (hN : N ≤ w.heap.size) :
    TB (fun k => F k ∧ k < w.heap.size) wA t bm ks made ∧ Thr (fun k => F k ∧ k < w.heap.size) N wA v' (th ++ [n]) ∧ Below N a wA := by
  have hS : Fr (fun k => v.ownBlock = some k) w wA := ((Fr.refl _ w).alloc o).grown hg fun k hk => hk
  refine ⟨(T.to (G := fun k => F k ∧ k < w.heap.size) fun k hk hF => ⟨hF, hk⟩).under hS fun k _ hk hF => H.off k hk hF.1, ⟨?_, ?_⟩, ?_⟩
  · rw [il_snoc]; simpa using ho
  · intro g hg' hF
    rcases hat with h | h
    · exact H.off g (h ▸ hg') hF.1
    · rw [h] at hg'
      have e := Option.some.inj hg'
      have := hF.2
      omega
  · exact hS.below hb hN fun k _ hk => (H.own.lt k hk).1
/-- a list laid anew -/
theorem thr_new {wB : World} {v2 : Value} {th2 : List Nat} (T : TB F w t bm ks made) (ho : wB.ownsRow w.heap.size 3 1 v2 th2.length (il th2)) (hb : Below w.heap.size w wB) (hN : N ≤ w.heap.size) :
    TB (fun k => F k ∧ k < w.heap.size) wB t bm ks made ∧ Thr (fun k => F k ∧ k < w.heap.size) N wB v2 th2 :=
  ⟨(T.to (G := fun k => F k ∧ k < w.heap.size) fun k hk hF => ⟨hF, hk⟩).below hb, own_base ho hN, fun g hg hF => by have := (ho.lt g hg).1; omega⟩
end
/-- an append at a step of a region that draws -/
theorem step_app {P : Program} {w : World} {ops : Array Oper} {o : Oper} {a : Act} {K : Act → World → Prop} {Q : Exit → Act → World → Prop} {E : Prop} (hgd : o.guard = none) (s x : Operand) (t : TypeId)
    (ho : o.op = .call { callee := .builtin .append, args := #[s, x], argTypes := #[t, t] })
    (base : Nat) (e : TypeId) (i : TypeInfo) (z : Value) (size bytes : Nat) (ht : P.underlying t = some (.slice e)) (hi : P.info? e = some i) (hz : i.zero = some z)
    (hsize : i.size = size) (hby : i.bytes = bytes) (hzs : z.cells.size = size) (hsz : 0 < size)
    (v : Value) (n : Nat) (xs : List Value) (hs : a.eval s = v) (hown : w.ownsRow base e size v n xs)
    (ad : Addr) (m c : Nat) (news : List Value) (hx : a.eval x = .slice (some ad) m c) (hl : news.length = m * size) (hnews : ∀ j u, news[j]? = some u → w.cell? (ad.add j) = some u) (h1 : ∀ u ∈ news, u.oneCell' = true)
    (h63 : n + m ≤ maxLen) (hbytes : (n + m) * bytes ≤ 140737488355328) (hbase : base ≤ w.heap.size)
    (h : ∀ v' w', Hid (w'.ownsRow base e size v' (n + m) (xs ++ news)) → Hid (w.grownBy w' v.ownBlock) → K (a.put o.dst v') w') :
    if Region.wanted o (yielded ops a.tmps) = true then Oper.wp P o a w K Q else E := by
  have hw : Region.wanted o (yielded ops a.tmps) = true := by simp [Region.wanted, hgd]
  rw [if_pos hw]
  exact wp_append_own w s x t ho base e i z size bytes ht hi hz hsize hby hzs hsz v n xs hs hown ad m c news hx hl hnews h1 h63 hbytes hbase fun v' w' h2 h3 _ => h v' w' h2 h3
theorem emptyI (w : World) (B : Nat) (hB : B ≤ w.heap.size) : (w.alloc (.cells #[] 3)).ownsRow B 3 1 (.slice (some ⟨w.heap.size, 0, none⟩) 0 0) 0 [] :=
  ⟨rfl, .inr ⟨w.heap.size, 0, #[], rfl, hB, heap_alloc_new w _, Nat.le_refl _, Nat.zero_le _, rfl, rfl⟩⟩
theorem wrap_small (k : Nat) (h : k ≤ 16384) : IntKind.i64.wrap (k : Int) = (k : Int) := by rw [IntKind.wrap_i64]; omega
/-- there[k+1:] -/
theorem cut_from (g j cap k : Nat) (h1 : k + 1 ≤ j) (h2 : j ≤ cap) : ∃ ad r cr, (∀ W, (Instr.sliceAt 28 (.slice (some ⟨g, 0, none⟩) j cap) (some (.int .i64 ((k : Int) + 1))) none none).run Tryd.prog W = .ok (.slice (some ad) r cr) W) ∧ Hid (r = j - (k + 1)) ∧ Hid (0 < r → ad = ⟨g, k + 1, none⟩) := by
  refine ⟨if cap = k + 1 then ⟨g, 0, none⟩ else ⟨g, k + 1, none⟩, j - (k + 1), cap - (k + 1), fun W => ?_, rfl, fun hr => ?_⟩
  · have e : ((k : Int) + 1).toNat = k + 1 := by omega
    rw [run_sliceAt_slice W _ _ _ _ _ (by kernel_rfl), run_slice_l W _ _ _ _ (by kernel_rfl) .i64 ((k : Int) + 1) (by omega) (by omega), e]
    have hs : (sizeOf (Tryd.prog.elem 28)).run Tryd.prog W = .ok 1 W := by kernel_rfl
    rw [hs]
    by_cases c : cap = k + 1
    · simp [sliced, c, Result.andThen]
    · simp [sliced, c, Result.andThen, Addr.add]
  · rw [if_neg (by have : 0 < j - (k + 1) := hr
                   omega)]
theorem news_take {w : World} {g k : Nat} {th : List Nat} (h : ∀ q, q < th.length → w.cell? ⟨g, q, none⟩ = some (.int .i64 ((th.getD q 0 : Nat) : Int))) : ∀ q u, (il (th.take k))[q]? = some u → w.cell? (Addr.add ⟨g, 0, none⟩ q) = some u := by
  intro q u hq
  have hl := (List.getElem?_eq_some_iff.1 hq).1
  rw [il_len, List.length_take] at hl
  rw [il_get _ _ (by rw [List.length_take]; exact hl)] at hq
  have e : (th.take k).getD q 0 = th.getD q 0 := by simp [List.getD, show q < k by omega]
  rw [e] at hq
  cases hq
  have ea : Addr.add ⟨g, 0, none⟩ q = ⟨g, q, none⟩ := by simp [Addr.add]; omega
  rw [ea]
  exact h q (by omega)
theorem news_drop {w : World} {g k : Nat} {ad : Addr} {th : List Nat} (h : ∀ q, q < th.length → w.cell? ⟨g, q, none⟩ = some (.int .i64 ((th.getD q 0 : Nat) : Int))) (ha : 0 < th.length - k → ad = ⟨g, k, none⟩) : ∀ q u, (il (th.drop k))[q]? = some u → w.cell? (ad.add q) = some u := by
  intro q u hq
  have hl := (List.getElem?_eq_some_iff.1 hq).1
  rw [il_len, List.length_drop] at hl
  rw [il_get _ _ (by rw [List.length_drop]; exact hl)] at hq
  have e : (th.drop k).getD q 0 = th.getD (k + q) 0 := by simp [List.getD]
  rw [e] at hq
  cases hq
  rw [ha (by omega)]
  have ea : Addr.add ⟨g, k, none⟩ q = ⟨g, k + q, none⟩ := by simp [Addr.add]
  rw [ea]
  exact h (k + q) (by omega)
/-- the cells of a row of numbers -/
theorem row_cells {w : World} {N q lc : Nat} {lo : Option Addr} {ks : List Nat} (h : w.ownsRow N 3 1 (.slice lo q lc) q (il ks)) (hq : 0 < q) (hk : ks.length = q) : ∃ g, lo = some ⟨g, 0, none⟩ ∧ ∀ j, j < q → w.cell? ⟨g, j, none⟩ = some (.int .i64 ((ks.getD j 0 : Nat) : Int)) := by
  rcases h.2 with ⟨h1, h2⟩ | ⟨g, cap, cur, e, h1, h2, h3⟩
  · omega
  · cases e
    refine ⟨g, rfl, fun j hj => ?_⟩
    rw [h.cellAt j (by omega), il_get ks j (by omega)]
theorem srt_at {ks : List Nat} (h : ks.Pairwise (· < ·)) {i j : Nat} (hij : i < j) (hj : j < ks.length) : ks.getD i 0 < ks.getD j 0 := by
  have := List.pairwise_iff_getElem.1 h i j (by omega) hj hij
  simpa [List.getD, hj, show i < ks.length by omega] using this
theorem il_one (zs : List Nat) : ∀ u ∈ il zs, u.oneCell' = true := by
  intro u hu
  obtain ⟨z, _, rfl⟩ := List.mem_map.1 hu
  rfl
end Go.Proofs.YtljopkmpcolgfaaDoor
