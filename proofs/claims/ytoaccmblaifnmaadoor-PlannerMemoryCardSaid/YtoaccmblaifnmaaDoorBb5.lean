/-
  What PlannerLists and its fellows rest on, joined: Oy1 Wdg Apf.
-/
import Derived.WalkKit
import Ieee.Arith
import Derived.WalkLawsBesides
import Derived.Test.YtoaccmblaifnmaaDoorProg
import Derived.Deep.DeepCutAuto
import Derived.Deep.QuietTactic
import Derived.Laws.Rows
import Derived.Lib.ItoaNum
import Derived.Laws.IdiomStrings
import Derived.Deep.RegionHeld3
import Derived.Lib.SmallJoins
import Derived.Lib.HexFns
import Derived.Test.YtoaccmblaifnmaaDoorRows
import Derived.LaidEql
import Derived.LaidLaws
import Derived.LaidHandle
import Derived.Stop.Joined
import Derived.Deep.RegionWith
import Derived.Recover
import Derived.RegionDies
import Derived.Outline
import Derived.Laws.CopyOwn
import Derived.Lib.AppendIntMem
import Derived.Laws.AppendOwn
import Derived.OwnWalk
import Derived.BigCall
import Derived.BigQuiet
import Derived.WalkSmall
import Derived.Test.YtoaccmblaifnmaaDoorBa8
import Derived.Test.YtoaccmblaifnmaaDoorBb4
import Derived.Test.YtoaccmblaifnmaaDoorBa1
namespace Go.Proofs.YtoaccmblaifnmaaDoor
open Flo Go.RowKit Tr
theorem Os.keep2 {S S' : Nat → Prop} {w w' : World} (hs : ∀ b, S b → b < w.heap.size → S' b) (hk : ∀ b, S b → b < w.heap.size → w'.heap[b]? = w.heap[b]?) (t : Tr) : ∀ v, Os S w t v → Os S' w' t v := by
  refine Tr.ind (P := fun t => ∀ v, Os S w t v → Os S' w' t v) (fun k n ks ih v h => ?_) t
  rw [os_eq] at h ⊢
  obtain ⟨ao, cap, rfl, hl, hc⟩ := h
  refine ⟨ao, cap, rfl, hl, fun i hi => ?_⟩
  obtain ⟨b, c, s, K, ho⟩ := hc i hi
  exact ⟨b, c, s, ⟨K.at0, hs _ K.set (blk_lt K.blk), (hk _ K.set (blk_lt K.blk)).trans K.blk, K.d0, K.d1, K.d2⟩, ih _ (List.getElem_mem hi) _ ho⟩
/-- the cells of a list of orders -/
def cso (ks : List Tr) (ss : List Value) : List Value := (ks.zip ss).flatMap fun p => [.int .i64 p.1.k, .int .i64 p.1.n, p.2]
theorem cso_len : ∀ (ks : List Tr) (ss : List Value), ss.length = ks.length → (cso ks ss).length = ks.length * 3
  | [], _, _ => by simp [cso]
  | t :: ks, [], h => by simp at h
  | t :: ks, s :: ss, h => by
    have := cso_len ks ss (by simpa using h)
    show ([Value.int .i64 t.k, .int .i64 t.n, s] ++ cso ks ss).length = _
    rw [List.length_append, this]
    simp only [List.length_cons, List.length_nil]; omega
theorem cso_snoc (ks : List Tr) (ss : List Value) (t : Tr) (s : Value) (h : ss.length = ks.length) : cso (ks ++ [t]) (ss ++ [s]) = cso ks ss ++ [.int .i64 t.k, .int .i64 t.n, s] := by
  unfold cso
  rw [List.zip_append h.symm]
  simp
theorem cso_at : ∀ (ks : List Tr) (ss : List Value) (i j : Nat) (t : Tr) (s : Value), ss.length = ks.length → ks[i]? = some t → ss[i]? = some s → j < 3 → (cso ks ss)[i * 3 + j]? = [Value.int .i64 t.k, .int .i64 t.n, s][j]?
  | [], _, _, _, _, _, _, h, _, _ => by simp at h
  | _ :: _, [], _, _, _, _, h, _, _, _ => by simp at h
  | t0 :: ks, s0 :: ss, 0, j, t, s, _, h1, h2, hj => by
    have e1 : t0 = t := by simpa using h1
    have e2 : s0 = s := by simpa using h2
    subst e1; subst e2
    show ([Value.int .i64 t0.k, .int .i64 t0.n, s0] ++ cso ks ss)[0 * 3 + j]? = _
    rw [Nat.zero_mul, Nat.zero_add, List.getElem?_append_left (by simpa using hj)]
  | t0 :: ks, s0 :: ss, i + 1, j, t, s, h, h1, h2, hj => by
    show ([Value.int .i64 t0.k, .int .i64 t0.n, s0] ++ cso ks ss)[(i + 1) * 3 + j]? = _
    rw [List.getElem?_append_right (by simp; omega)]
    have := cso_at ks ss i j t s (by simpa using h) (by simpa using h1) (by simpa using h2) hj
    rw [← this]
    congr 1
    simp; omega
/-- a list of orders that grows, in a row of its own; the orders lie elsewhere -/
structure Gr (B : Nat) (w : World) (kv : Value) (ks : List Tr) (ss : List Value) : Prop where
  own : w.ownsRow B 24 3 kv ks.length (cso ks ss)
  len : ss.length = ks.length
  sl : ∀ s ∈ ss, ∃ a l c, s = .slice a l c
  kid : ∀ (j : Nat) t s, ks[j]? = some t → ss[j]? = some s → Os (fun b => B ≤ b ∧ some b ≠ kv.ownBlock) w t (.agg #[.int .i64 t.k, .int .i64 t.n, s])
theorem Gr.nil (B : Nat) (w : World) : Gr B w (.slice none 0 0) [] [] := ⟨World.ownsRow_nil _ _ _ _, rfl, (fun s h => by cases h), fun j t s h => by simp at h⟩
theorem Gr.bel {B : Nat} {w w' : World} {kv : Value} {ks : List Tr} {ss : List Value} (h : Gr B w kv ks ss) (hb : Below w.heap.size w w') : Gr B w' kv ks ss :=
  ⟨h.own.kept (below_gb hb none) (by cases hv : kv.ownBlock with | none => exact .inl rfl | some b => exact .inr (by simp)), h.len, h.sl, fun j t s h1 h2 => (h.kid j t s h1 h2).bel hb⟩
/-- one more, which lies in new blocks -/
theorem Gr.snoc {B : Nat} {w1 w2 w3 w' : World} {kv kv' : Value} {ks : List Tr} {ss : List Value} {t : Tr} {s : Value} {a : Option Addr} {l c : Nat} (h : Gr B w1 kv ks ss) (hB : B ≤ w1.heap.size) (b12 : Below w1.heap.size w1 w2) (ho : Os (nw w1) w2 t (.agg #[.int .i64 t.k, .int .i64 t.n, s])) (hs : s = .slice a l c)
    (b23 : Below w2.heap.size w2 w3) (hown : w'.ownsRow B 24 3 kv' (ks.length + 1) (cso ks ss ++ [.int .i64 t.k, .int .i64 t.n, s])) (hg : w3.grownBy w' kv.ownBlock) (hnew : ∀ b, kv'.ownBlock = some b → kv.ownBlock = some b ∨ w3.heap.size ≤ b) : Gr B w' kv' (ks ++ [t]) (ss ++ [s]) := by
  have hkeep : ∀ (u : Tr) (v : Value) (W : World) (S : Nat → Prop), (∀ b, S b → b < W.heap.size → B ≤ b ∧ some b ≠ kv.ownBlock) → (Below W.heap.size W w3) → Os S W u v → Os (fun b => B ≤ b ∧ some b ≠ kv'.ownBlock) w' u v := fun u v W S hS hW hO => by
    refine Os.keep2 (fun b hb hl => ?_) (fun b hb hl => ?_) u v hO
    · obtain ⟨h1, h2⟩ := hS b hb hl
      refine ⟨h1, fun e => ?_⟩
      rcases hnew b e.symm with h3 | h3
      · exact h2 h3.symm
      · have := hW.size; omega
    · obtain ⟨h1, h2⟩ := hS b hb hl
      rw [hg.block b (Nat.lt_of_lt_of_le hl hW.size) h2]
      exact hW.block b hl
  refine ⟨by rw [cso_snoc _ _ _ _ h.len, List.length_append]; exact hown, by simp [h.len], (fun x hx => ?_), fun j u v h1 h2 => ?_⟩
  · rcases List.mem_append.1 hx with hx | hx
    · exact h.sl x hx
    · rw [List.mem_singleton.1 hx]; exact ⟨a, l, c, hs⟩
  · by_cases hj : j < ks.length
    · rw [List.getElem?_append_left hj] at h1
      rw [List.getElem?_append_left (by rw [h.len]; exact hj)] at h2
      refine hkeep u _ w1 _ (fun b hb _ => hb) (btr b12 b23) (h.kid j u v h1 h2)
    · rw [List.getElem?_append_right (by omega)] at h1
      rw [List.getElem?_append_right (by rw [h.len]; omega)] at h2
      rw [h.len] at h2
      cases hjj : j - ks.length with
      | succ n => rw [hjj] at h1; simp at h1
      | zero =>
        rw [hjj] at h1 h2
        obtain rfl : t = u := by simpa using h1
        obtain rfl : s = v := by simpa using h2
        refine hkeep t _ w2 (nw w1) (fun b hb _ => ?_) b23 ho
        have h3 : w1.heap.size ≤ b := hb
        refine ⟨by omega, fun e => ?_⟩
        have := (h.own.lt b e.symm).2
        omega
/-- the whole of it -/
theorem Gr.os {B : Nat} {w : World} {kv : Value} {ks : List Tr} {ss : List Value} {k n : Int} (h : Gr B w kv ks ss) (hf : fit k n) (hl : ks.length ≤ 9223372036854775807) : Os (fun b => B ≤ b) w ⟨k, n, ks⟩ (.agg #[.int .i64 k, .int .i64 n, kv]) ∧ ∃ a c, kv = .slice a ks.length c := by
  have hsh : ∃ a c, kv = .slice a ks.length c := by
    rcases h.own.2 with ⟨e, e0⟩ | ⟨g, cap, cur, e, _⟩
    · exact ⟨none, 0, by rw [e, e0]⟩
    · exact ⟨_, _, e⟩
  refine ⟨?_, hsh⟩
  rw [os_eq]
  obtain ⟨a, c, e⟩ := hsh
  refine ⟨a, c, by rw [e], ⟨hl, hf⟩, fun i hi => ?_⟩
  have hi1 : ks[i]? = some ks[i] := List.getElem?_eq_getElem hi
  have hi' : i < ss.length := by rw [h.len]; exact hi
  have hi2 : ss[i]? = some ss[i] := List.getElem?_eq_getElem hi'
  rcases h.own.2 with ⟨_, e0⟩ | ⟨g, cap, cur, e', hbg, hh, hnc, _, hsz, htk⟩
  · omega
  · rw [e'] at e
    simp only [Value.slice.injEq] at e
    obtain ⟨e1, _, _⟩ := e
    have hc : ∀ j, j < 3 → cur[i * 3 + j]? = [Value.int .i64 ks[i].k, .int .i64 ks[i].n, ss[i]][j]? := fun j hj => by
      rw [← cso_at ks ss i j _ _ h.len hi1 hi2 hj, ← htk, List.getElem?_take, if_pos (by omega)]; simp
    refine ⟨g, cur, ss[i], ⟨e1.symm, hbg, hh, ?_, ?_, ?_⟩, Os.keep (fun b hb => hb.1) (fun _ _ _ => rfl) _ _ (h.kid i _ _ hi1 hi2)⟩
    · have := hc 0 (by decide); rw [Nat.add_zero] at this; exact this
    · exact hc 1 (by decide)
    · exact hc 2 (by decide)
end Go.Proofs.YtoaccmblaifnmaaDoor
namespace Go.Proofs.YtoaccmblaifnmaaDoor.Wd

/-- word i of n -/
def wd (b n i : Nat) : Nat := n / b ^ i % b
/-- how many words n has -/
def nwF (b : Nat) : Nat → Nat → Nat
  | 0, _ => 0
  | f + 1, n => if n = 0 ∨ b < 2 then 0 else nwF b f (n / b) + 1
def nw (b n : Nat) : Nat := nwF b n n
/-- n x f + c, word by word: the carry behind i words -/
def cm (b n f c i : Nat) : Nat := (n % b ^ i * f + c) / b ^ i
/-- sums -/
def ca (b m n i : Nat) : Nat := (m % b ^ i + n % b ^ i) / b ^ i
/-- differences: the borrow -/
def br (b m n i : Nat) : Nat := if m % b ^ i < n % b ^ i then 1 else 0
end Go.Proofs.YtoaccmblaifnmaaDoor.Wd
namespace Go.Proofs.YtoaccmblaifnmaaDoor
open Flo Go.RowKit
section
variable {P : Program} (w : World)
theorem append_fr (base : Nat) (t ty e : TypeId) (i : TypeInfo) (z : Value) (size bytes : Nat) (ht : P.underlying t = some (.slice e)) (hi : P.info? e = some i) (hz : i.zero = some z)
    (hsize : i.size = size) (hby : i.bytes = bytes) (hzs : z.cells.size = size) (hsz : 0 < size)
    (v : Value) (n : Nat) (xs : List Value) (hown : w.ownsRow base e size v n xs)
    (a : Addr) (m c : Nat) (news : List Value) (hl : news.length = m * size) (hnews : ∀ j u, news[j]? = some u → w.cell? (a.add j) = some u) (h1 : ∀ u ∈ news, u.oneCell' = true)
    (h63 : n + m ≤ maxLen) (hbytes : (n + m) * bytes ≤ 140737488355328) (hbase : base ≤ w.heap.size) :
    ∃ v' w', (Builtin.append_ #[t, t] ty #[v, .slice (some a) m c]).run P w = .ok v' w' ∧ w'.ownsRow base e size v' (n + m) (xs ++ news) ∧ w.grownBy w' v.ownBlock ∧
      (∀ b, v'.ownBlock = some b → v.ownBlock = some b ∨ w.heap.size ≤ b) := by
  obtain ⟨v', w', hr, h2, h3, h4⟩ := run_append_own (P := P) w base t ty e i z size bytes ht hi hz hsize hby hzs hsz v n xs hown a m c news hl hnews h1 h63 hbytes hbase
  refine ⟨v', w', hr, h2, h3, ?_⟩
  have hsmall : n + m ≤ 9223372036854775807 := h63
  subst hsize
  subst hby
  rcases hown.2 with ⟨rfl, rfl⟩ | ⟨g, cap, cur, rfl, hbg, hg, hnc, hcm, hcs, htake⟩
  · by_cases hm : m = 0
    · have hv := h4.2 ⟨rfl, hm⟩
      subst hv
      intro b hb
      cases hb
    · have hr2 := run_append_nil (P := P) w t ty e i z ht hi hz a m c news hl hnews (by omega) (by omega) (by rw [Nat.zero_add] at hbytes; omega)
      rw [hr] at hr2
      cases hr2
      intro b hb
      cases hb
      exact .inr (Nat.le_refl _)
  · by_cases hroom : n + m ≤ cap
    · have hr2 := run_append_room (P := P) w t ty e i ht hi g n cap cur hg a m c news hl hnews h1 hroom (by rw [hl, hcs, ← Nat.add_mul]; exact Nat.mul_le_mul_right _ hroom)
      rw [hr] at hr2
      cases hr2
      intro b hb
      exact .inl hb
    · have hr2 := run_append_grow (P := P) w t ty e i z ht hi hz ⟨g, 0, none⟩ n cap xs hown.1 (hown.cells (g := g) rfl) a m c news hl hnews (by omega) (by omega) (growslice_fits (by omega) hbytes)
      rw [hr] at hr2
      cases hr2
      intro b hb
      cases hb
      exact .inr (Nat.le_refl _)
theorem wpList_append_fr {ops : Array Oper} {rest : List Oper} {o : Oper} {a : Act} {Q : Exit → Act → World → Prop} (hgd : o.guard = none) (s x : Operand) (t : TypeId)
    (ho : o.op = .call { callee := .builtin .append, args := #[s, x], argTypes := #[t, t] })
    (base : Nat) (e : TypeId) (i : TypeInfo) (z : Value) (size bytes : Nat) (ht : P.underlying t = some (.slice e)) (hi : P.info? e = some i) (hz : i.zero = some z)
    (hsize : i.size = size) (hby : i.bytes = bytes) (hzs : z.cells.size = size) (hsz : 0 < size)
    (v : Value) (n : Nat) (xs : List Value) (hs : a.eval s = v) (hown : w.ownsRow base e size v n xs)
    (ad : Addr) (m c : Nat) (news : List Value) (hx : a.eval x = .slice (some ad) m c) (hl : news.length = m * size) (hnews : ∀ j u, news[j]? = some u → w.cell? (ad.add j) = some u) (h1 : ∀ u ∈ news, u.oneCell' = true)
    (h63 : n + m ≤ maxLen) (hbytes : (n + m) * bytes ≤ 140737488355328) (hbase : base ≤ w.heap.size)
    (h : ∀ v' w', w'.ownsRow base e size v' (n + m) (xs ++ news) → w.grownBy w' v.ownBlock → (∀ b, v'.ownBlock = some b → v.ownBlock = some b ∨ w.heap.size ≤ b) → wpList P ops Q rest (a.put o.dst v') w') : wpList P ops Q (o :: rest) a w := by
  obtain ⟨v', w', hr, h2, h3, h4⟩ := append_fr (P := P) w base t o.type e i z size bytes ht hi hz hsize hby hzs hsz v n xs hown ad m c news hl hnews h1 h63 hbytes hbase
  refine wpList_plain hgd fun _ hK => ?_
  unfold Oper.wp execOp
  simp only [ho, resolve, invoke, builtin, Sem.run_bind, Sem.run_pure, Result.andThen_ok, List.map_toArray, List.map_cons, List.map_nil, hs, hx, hr]
  exact hK _ _ (h v' w' h2 h3 h4)
end
end Go.Proofs.YtoaccmblaifnmaaDoor
