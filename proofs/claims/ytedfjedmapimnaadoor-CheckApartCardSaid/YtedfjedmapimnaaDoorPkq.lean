/-
  Package pack, memory: what a call leaves as it was; a Writer's bytes.
-/
import Derived.Test.YtedfjedmapimnaaDoorApf
import Derived.Test.YtedfjedmapimnaaDoorLow
import Derived.Test.YtedfjedmapimnaaDoorMod
import Derived.Lib.AppendStr
import Derived.Test.YtedfjedmapimnaaDoorPkm
import Derived.Laws.BitsAllLaws
namespace Go.Proofs.YtedfjedmapimnaaDoor
open Flo Go.RowKit
/-- all but the blocks of S is as it was -/
structure Fr (S : Nat → Prop) (w w' : World) : Prop where
  os : w'.os = w.os
  tape : w'.tape = w.tape
  output : w'.output = w.output
  size : w.heap.size ≤ w'.heap.size
  block : ∀ k, k < w.heap.size → ¬ S k → w'.heap[k]? = w.heap[k]?
section
variable {S T : Nat → Prop} {a b c w w' : World}
theorem Fr.refl (S : Nat → Prop) (w : World) : Fr S w w := ⟨rfl, rfl, rfl, Nat.le_refl _, fun _ _ _ => rfl⟩
theorem Fr.trans (h : Fr S a b) (h2 : Fr T b c) (hT : ∀ k, T k → S k ∨ a.heap.size ≤ k) : Fr S a c :=
  ⟨h2.os.trans h.os, h2.tape.trans h.tape, h2.output.trans h.output, Nat.le_trans h.size h2.size, fun k hk hn => by
    refine (h2.block k (Nat.lt_of_lt_of_le hk h.size) fun ht => ?_).trans (h.block k hk hn)
    rcases hT k ht with h3 | h3
    · exact hn h3
    · omega⟩
theorem Fr.then (h : Fr S a b) (h2 : Fr S b c) : Fr S a c := h.trans h2 fun _ h => .inl h
theorem Fr.mono (h : Fr S w w') (hS : ∀ k, k < w.heap.size → S k → T k) : Fr T w w' := ⟨h.os, h.tape, h.output, h.size, fun k hk hn => h.block k hk fun hs => hn (hS k hk hs)⟩
theorem Fr.drew (h : Fr S a w) : Fr S a w.drew := ⟨h.os, h.tape, h.output, h.size, h.block⟩
theorem Fr.alloc (h : Fr S a w) (o : Obj) : Fr S a (w.alloc o) :=
  h.trans (T := S) ⟨rfl, rfl, rfl, by simp, fun k hk _ => Below.heap_alloc _ _ _ (by omega)⟩ fun _ h => .inl h
theorem Fr.setCell (h : Fr S a w) {p : Addr} (hp : S p.block) (u : Value) : Fr S a (w.setCell p u) :=
  h.trans (T := S) ⟨rfl, rfl, rfl, by simp [World.setCell], fun k _ hn => Below.heap_setCell _ _ _ _ fun e => hn (e ▸ hp)⟩ fun _ h => .inl h
theorem Fr.grown (h : Fr S a w) {r : Option Nat} (hg : w.grownBy w' r) (hr : ∀ k, r = some k → S k) : Fr S a w' :=
  h.trans (T := S) ⟨hg.os, hg.tape, hg.output, hg.size, fun k hk hn => hg.block k hk fun e => hn (hr k e.symm)⟩ fun _ h => .inl h
theorem Fr.of_below {B : Nat} (h : Below B w w') (hS : ∀ k, B ≤ k → k < w.heap.size → S k) : Fr S w w' := ⟨h.os, h.tape, h.output, h.size, fun k hk hn => h.block k (by
  rcases Nat.lt_or_ge k B with h1 | h1
  · exact h1
  · exact absurd (hS k h1 hk) hn)⟩
theorem Fr.below {B : Nat} (h : Fr S w w') (hb : Below B a w) (hB : B ≤ w.heap.size) (hS : ∀ k, k < w.heap.size → S k → B ≤ k) : Below B a w' :=
  hb.trans ⟨h.os, h.tape, h.output, h.size, fun k hk => h.block k (by omega) fun hs => by have := hS k (by omega) hs; omega⟩
theorem Fr.cell (h : Fr S w w') {p : Addr} {v : Value} (hc : w.cell? p = some v) (hS : ¬ S p.block) : w'.cell? p = some v :=
  (World.cell?_of_block (h.block p.block (World.block_lt_of_cell? w p hc) hS)).trans hc
theorem Fr.frozen (h : Fr S w w') {p : Addr} (hp : p.block < w.heap.size) (hS : ¬ S p.block) : w'.frozen? p = w.frozen? p := World.frozen?_of_block (h.block p.block hp hS)
end
theorem owns_block {w w' : World} {B n size : Nat} {e : TypeId} {v : Value} {xs : List Value} (h : w.ownsRow B e size v n xs) (hb : ∀ b, v.ownBlock = some b → w'.heap[b]? = w.heap[b]?) : w'.ownsRow B e size v n xs := by
  obtain ⟨h1, h2⟩ := h
  refine ⟨h1, ?_⟩
  rcases h2 with h2 | ⟨g, cap, cur, rfl, h3, h4, h5⟩
  · exact .inl h2
  · exact .inr ⟨g, cap, cur, rfl, h3, (hb g rfl).trans h4, h5⟩
theorem owns_base {w : World} {B C n size : Nat} {e : TypeId} {v : Value} {xs : List Value} (h : w.ownsRow B e size v n xs) (hC : ∀ b, v.ownBlock = some b → C ≤ b) : w.ownsRow C e size v n xs := by
  obtain ⟨h1, h2⟩ := h
  refine ⟨h1, ?_⟩
  rcases h2 with h2 | ⟨g, cap, cur, rfl, h3, h4⟩
  · exact .inl h2
  · exact .inr ⟨g, cap, cur, rfl, hC g rfl, h4⟩
theorem Fr.owns {S : Nat → Prop} {w w' : World} {B n size : Nat} {e : TypeId} {v : Value} {xs : List Value} (hf : Fr S w w') (h : w.ownsRow B e size v n xs) (hS : ∀ b, v.ownBlock = some b → ¬ S b) : w'.ownsRow B e size v n xs :=
  owns_block h fun b hb => hf.block b (h.lt b hb).2 (hS b hb)
theorem owns_slice {w : World} {B n size : Nat} {e : TypeId} {v : Value} {xs : List Value} (h : w.ownsRow B e size v n xs) : ∃ ao cap, v = .slice ao n cap := by
  rcases h.2 with ⟨rfl, rfl⟩ | ⟨g, cap, cur, rfl, h3⟩
  · exact ⟨_, _, rfl⟩
  · exact ⟨_, _, rfl⟩
/-- bytes in cells -/
def bc (ys : List Nat) : List Value := ys.map fun (n : Nat) => Value.int .u8 (n : Int)
theorem bc_len (ys : List Nat) : (bc ys).length = ys.length := by simp [bc]
theorem bc_app (xs ys : List Nat) : bc (xs ++ ys) = bc xs ++ bc ys := by simp [bc]
theorem bc_one (ys : List Nat) : ∀ u ∈ bc ys, u.oneCell' = true := by
  intro u hu
  obtain ⟨b, _, rfl⟩ := List.mem_map.1 hu
  rfl
theorem infoB : (Tryd.prog.info? 5).map (fun i => (i.zero, i.size, i.bytes)) = some (some (.int .u8 0), 1, 1) := by kernel_rfl
/-- a row of these bytes, in a block of its own (or nil) -/
def OwB (w : World) (v : Value) (ys : List Nat) : Prop := w.ownsRow 0 5 1 v ys.length (bc ys)
theorem OwB.slice {w : World} {v : Value} {ys : List Nat} (h : OwB w v ys) : ∃ n ao cap, v = .slice ao n cap ∧ Hid (n = ys.length) := by
  obtain ⟨ao, cap, rfl⟩ := owns_slice h; exact ⟨_, ao, cap, rfl, rfl⟩
/-- a Writer at g, with these bytes; it may touch the blocks of F -/
structure WrV (F : Nat → Prop) (w : World) (g : Nat) (v : Value) (ys : List Nat) : Prop where
  cell : w.cell? ⟨g, 0, none⟩ = some v
  free : w.frozen? ⟨g, 0, none⟩ = false
  own : OwB w v ys
  ne : v.ownBlock ≠ some g
  fg : F g
  fv : ∀ b, v.ownBlock = some b → F b
def Wr (F : Nat → Prop) (w : World) (g : Nat) (ys : List Nat) : Prop := ∃ v, WrV F w g v ys
section
variable {F G S : Nat → Prop} {w w' : World} {g : Nat} {v : Value} {ys : List Nat}
theorem WrV.lt (h : WrV F w g v ys) : g < w.heap.size := World.block_lt_of_cell? w _ h.cell
theorem WrV.under (h : WrV F w g v ys) (hf : Fr S w w') (hS : ∀ k, k < w.heap.size → S k → ¬ F k) : WrV F w' g v ys :=
  ⟨hf.cell h.cell fun hs => hS _ h.lt hs h.fg, (hf.frozen h.lt fun hs => hS _ h.lt hs h.fg).trans h.free, Fr.owns hf h.own fun b hb hs => hS b (World.ownsRow.lt h.own b hb).2 hs (h.fv b hb), h.ne, h.fg, h.fv⟩
theorem WrV.to (h : WrV F w g v ys) (hG : ∀ k, k < w.heap.size → F k → G k) : WrV G w g v ys := ⟨h.cell, h.free, h.own, h.ne, hG _ h.lt h.fg, fun b hb => hG b (World.ownsRow.lt h.own b hb).2 (h.fv b hb)⟩
theorem Wr.under (h : Wr F w g ys) (hf : Fr S w w') (hS : ∀ k, k < w.heap.size → S k → ¬ F k) : Wr F w' g ys := by
  obtain ⟨v, h⟩ := h; exact ⟨v, h.under hf hS⟩
theorem Wr.to (h : Wr F w g ys) (hG : ∀ k, k < w.heap.size → F k → G k) : Wr G w g ys := by
  obtain ⟨v, h⟩ := h; exact ⟨v, h.to hG⟩
/-- behind an append of the field's own, and the store of what it gave -/
theorem WrV.stored (h : WrV F w g v ys) {w1 w2 : World} {v' : Value} {zs : List Nat} (hf : Fr F w w1) (hF : ∀ k, w.heap.size ≤ k → F k) (hv1 : w1.cell? ⟨g, 0, none⟩ = some v)
    (hw2 : OwB w2 v' (ys ++ zs)) (hg : w1.grownBy w2 v.ownBlock) (hn : ∀ b, v'.ownBlock = some b → v.ownBlock = some b ∨ w1.heap.size ≤ b) (hfz : w1.frozen? ⟨g, 0, none⟩ = false) :
    WrV F (w2.setCell ⟨g, 0, none⟩ v') g v' (ys ++ zs) ∧ Fr F w (w2.setCell ⟨g, 0, none⟩ v') := by
  have hlt := h.lt
  have hg1 : g < w1.heap.size := World.block_lt_of_cell? w1 _ hv1
  have hne : v'.ownBlock ≠ some g := fun e => by
    rcases hn g e with h1 | h1
    · exact h.ne h1
    · omega
  have hc2 : w2.cell? ⟨g, 0, none⟩ = some v := hg.cell hv1 fun e => h.ne e.symm
  have hz2 : w2.frozen? ⟨g, 0, none⟩ = false := (World.frozen?_of_block (hg.block g hg1 fun e => h.ne e.symm)).trans hfz
  refine ⟨⟨World.cell?_setCell_same _ _ _ hc2, by rw [World.frozen?_setCell]; exact hz2, ?_, hne, h.fg, fun b hb => ?_⟩, ?_⟩
  · exact owns_block hw2 fun b hb => Below.heap_setCell _ _ _ _ fun e => hne (by rw [hb]; exact congrArg some e)
  · rcases hn b hb with h1 | h1
    · exact h.fv b h1
    · exact hF b (Nat.le_trans hf.size h1)
  · exact (hf.grown hg h.fv).setCell h.fg _
/-- the same behind a one-element slice that was laid -/
theorem WrV.push (h : WrV F w g v ys) (hF : ∀ k, w.heap.size ≤ k → F k) {o : Obj} {w2 : World} {v' : Value} {zs : List Nat}
    (hw2 : OwB w2 v' (ys ++ zs)) (hg : (w.alloc o).grownBy w2 v.ownBlock) (hn : ∀ b, v'.ownBlock = some b → v.ownBlock = some b ∨ w.heap.size + 1 ≤ b) :
    w2.cell? ⟨g, 0, none⟩ = some v ∧ w2.frozen? ⟨g, 0, none⟩ = false ∧ Hid (WrV F (w2.setCell ⟨g, 0, none⟩ v') g v' (ys ++ zs)) ∧ Hid (Fr F w (w2.setCell ⟨g, 0, none⟩ v')) := by
  have hc1 : (w.alloc o).cell? ⟨g, 0, none⟩ = some v := (World.cell?_alloc_lt w o ⟨g, 0, none⟩ h.lt).trans h.cell
  have hz1 : (w.alloc o).frozen? ⟨g, 0, none⟩ = false := (World.frozen?_of_block (Below.heap_alloc w o g h.lt)).trans h.free
  have hst := h.stored ((Fr.refl F w).alloc o) hF hc1 hw2 hg (fun b hb => by simpa using hn b hb) hz1
  have hgl : g < (w.alloc o).heap.size := World.block_lt_of_cell? _ _ hc1
  exact ⟨hg.cell hc1 fun e => h.ne e.symm, (World.frozen?_of_block (hg.block g hgl fun e => h.ne e.symm)).trans hz1, hst.1, hst.2⟩
/-- the same with nothing laid -/
theorem WrV.push0 (h : WrV F w g v ys) (hF : ∀ k, w.heap.size ≤ k → F k) {w2 : World} {v' : Value} {zs : List Nat}
    (hw2 : OwB w2 v' (ys ++ zs)) (hg : w.grownBy w2 v.ownBlock) (hn : ∀ b, v'.ownBlock = some b → v.ownBlock = some b ∨ w.heap.size ≤ b) :
    w2.cell? ⟨g, 0, none⟩ = some v ∧ w2.frozen? ⟨g, 0, none⟩ = false ∧ Hid (WrV F (w2.setCell ⟨g, 0, none⟩ v') g v' (ys ++ zs)) ∧ Hid (Fr F w (w2.setCell ⟨g, 0, none⟩ v')) := by
  have hst := h.stored (Fr.refl F w) hF h.cell hw2 hg hn h.free
  exact ⟨hg.cell h.cell fun e => h.ne e.symm, (World.frozen?_of_block (hg.block g h.lt fun e => h.ne e.symm)).trans h.free, hst.1, hst.2⟩
end
end Go.Proofs.YtedfjedmapimnaaDoor
/-
  Package pack: a Writer's Uint.
-/
namespace Go.Proofs.YtedfjedmapimnaaDoor
open Flo Go.RowKit
theorem or128 (x : Nat) : bits .or .u8 ((x : Int) % 256) 128 = ((x % 128 + 128 : Nat) : Int) := by
  have e : (x : Int) % 256 = ((x % 256 : Nat) : Int) := by omega
  have h : ∀ y : Fin 256, (y.val ||| 128 : Nat) = y.val % 128 + 128 := by decide +kernel
  rw [e, show (128 : Int) = ((128 : Nat) : Int) from rfl, u8_or_nat _ _ (by omega) (by decide), h ⟨x % 256, by omega⟩]
  show ((x % 256 % 128 + 128 : Nat) : Int) = _
  rw [Nat.mod_mod_of_dvd x (by decide : 128 ∣ 256)]
end Go.Proofs.YtedfjedmapimnaaDoor
/-
  Package pack: a Writer's fixed, Float, Complex.
-/
namespace Go.Proofs.YtedfjedmapimnaaDoor
open Flo Go.RowKit
end Go.Proofs.YtedfjedmapimnaaDoor
/-
  Package pack: slices.Clone, a Writer's Out and Text, Read, and what a Reader holds.
-/
namespace Go.Proofs.YtedfjedmapimnaaDoor
open Flo Go.RowKit
/-- a string's bytes -/
def sb (s : ByteArray) : List Nat := s.data.toList.map (·.toNat)
theorem sb_len (s : ByteArray) : (sb s).length = s.size := by simp [sb]
theorem sb_byte (s : ByteArray) : ∀ b ∈ sb s, b < 256 := by
  intro b hb
  obtain ⟨c, _, rfl⟩ := List.mem_map.1 hb
  exact c.toNat_lt
theorem bc_sb (s : ByteArray) : bc (sb s) = Go.Lib.strCells s := by simp [bc, sb, Go.Lib.strCells]
section
variable {P : Program} (w : World)
theorem append_str (t u ty e : TypeId) (i : TypeInfo) (ht : P.underlying t = some (.slice e)) (hu : P.underlying u = some .string) (hi : P.info? e = some i) (hz : i.zero = some (.int .u8 0))
    (hsize : i.size = 1) (hby : i.bytes = 1) (v : Value) (n : Nat) (xs : List Value) (hown : w.ownsRow 0 e 1 v n xs) (s : ByteArray) (hbytes : n + s.size ≤ 140737488355328) :
    ∃ v' w', (Builtin.append_ #[t, u] ty #[v, .string s]).run P w = .ok v' w' ∧ w'.ownsRow 0 e 1 v' (n + s.size) (xs ++ Go.Lib.strCells s) ∧ w.grownBy w' v.ownBlock ∧
      (∀ b, v'.ownBlock = some b → v.ownBlock = some b ∨ w.heap.size ≤ b) := by
  have h63 : n + s.size ≤ maxLen := by unfold maxLen; omega
  obtain ⟨v', w', hr, h2, h3, h4⟩ := Go.Lib.run_append_own_string (P := P) w 0 t u ty e i ht hu hi hz hsize hby v n xs hown s h63 hbytes (Nat.zero_le _)
  refine ⟨v', w', hr, h2, h3, ?_⟩
  have hsmall : n + s.size ≤ 9223372036854775807 := h63
  rcases hown.2 with ⟨rfl, rfl⟩ | ⟨g, cap, cur, rfl, hbg, hg, hnc, hcm, hcs, htake⟩
  · by_cases hm : s.size = 0
    · have hv := h4.2 ⟨rfl, hm⟩
      subst hv
      intro b hb
      cases hb
    · have hr2 := run_append_nil_string (P := P) w t u ty e i (.int .u8 0) ht hu hi hz s (by omega) (by omega) (by rw [hby]; omega)
      rw [hr] at hr2
      cases hr2
      intro b hb
      cases hb
      exact .inr (Nat.le_refl _)
  · by_cases hroom : n + s.size ≤ cap
    · have hr2 := Go.Lib.run_append_room_string (P := P) w t u ty e i ht hu hi hsize g n cap cur hg s hroom (by omega)
      rw [hr] at hr2
      cases hr2
      intro b hb
      exact .inl hb
    · have hr2 := Go.Lib.run_append_grow_string (P := P) w t u ty e i (.int .u8 0) ht hu hi hz ⟨g, 0, none⟩ n cap xs (by rw [hsize]; exact hown.1) (hown.cells (g := g) rfl) s (by omega) (by omega) (by rw [hby]; exact growslice_fits (by omega) (by omega))
      rw [hr] at hr2
      cases hr2
      intro b hb
      cases hb
      exact .inr (Nat.le_refl _)
end
/-- a slice of bytes that can be read -/
def SrcB (w : World) (v : Value) (ys : List Nat) : Prop :=
  (v = .slice none 0 0 ∧ ys = []) ∨ ∃ a cap, v = .slice (some a) ys.length cap ∧ ∀ j u, (bc ys)[j]? = some u → w.cell? (a.add j) = some u
theorem OwB.src {w : World} {v : Value} {ys : List Nat} (h : OwB w v ys) : SrcB w v ys := by
  have hh : w.ownsRow 0 5 1 v ys.length (bc ys) := h
  rcases hh.2 with ⟨rfl, h1⟩ | ⟨g, cap, cur, rfl, hbg, hg, hnc, hcm, hcs, htake⟩
  · exact .inl ⟨rfl, List.eq_nil_of_length_eq_zero h1⟩
  · exact .inr ⟨_, cap, rfl, hh.cells (g := g) rfl⟩
/-- a new row of these bytes -/
structure NewB (w w' : World) (v : Value) (ys : List Nat) : Prop where
  own : OwB w' v ys
  new : ∀ b, v.ownBlock = some b → w.heap.size ≤ b
  below : Below w.heap.size w w'
end Go.Proofs.YtedfjedmapimnaaDoor
