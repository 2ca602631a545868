/-
  Package tables: a Tables in memory; New, table, At, Made, Drop.
-/
import Derived.Test.YtljopkmpcolgfaaDoorFrm
import Derived.Test.YtljopkmpcolgfaaDoorTm8
import Derived.Test.YtljopkmpcolgfaaDoorLk8
import Derived.Test.YtljopkmpcolgfaaDoorPz7
import Derived.Conc.MuLone
import Derived.Maps.OwnSet
import Derived.WalkKit
import Derived.WalkSpells
namespace Go.Proofs.YtljopkmpcolgfaaDoor
open Flo Go.RowKit Go.Maps Go.MuLone

/-- a Tables at block t, its map at block bm, its lock's word; it keeps the tables of ks and has made so many; its blocks are of F -/
structure TBx (F : Nat → Prop) (w : World) (t bm : Nat) (s : Int) (ks : List Nat) (made : Nat) : Prop where
  c0 : w.cell? ⟨t, 0, none⟩ = some (.int .i32 s)
  c2 : w.cell? ⟨t, 2, none⟩ = some (.map (some bm))
  c3 : w.cell? ⟨t, 3, none⟩ = some (.int .i64 (made : Int))
  f0 : w.frozen? ⟨t, 0, none⟩ = false
  f3 : w.frozen? ⟨t, 3, none⟩ = false
  ne : bm ≠ t
  ft : F t
  fb : F bm
  srt : ks.Pairwise (· < ·)
  bds : ∀ x ∈ ks, 1 ≤ x ∧ x ≤ 16384
  map_ : ∃ D g, w.ownsMap Tryd.prog 3 kv8 bm 16384 D ∧ KD D ks g ∧ ∀ x ∈ ks, Cel w (g x) x ∧ F (g x)
/-- its lock is free -/
abbrev TB (F : Nat → Prop) (w : World) (t bm : Nat) (ks : List Nat) (made : Nat) : Prop := TBx F w t bm 0 ks made
/-- the blocks that a call on it may turn -/
def tb (t bm : Nat) (k : Nat) : Prop := k = t ∨ k = bm
theorem map_cell {P : Program} {k : TypeId} {w : World} {bm m : Nat} {D : DataW Value} {R : Value → Option (DataW Value × List MemPlace)} (h : w.ownsMap P k R bm m D) (i : Nat) : w.cell? ⟨bm, i, none⟩ = none := by
  obtain ⟨es, clock, hb, _⟩ := h
  unfold World.cell?
  rw [hb]
theorem own_blk {P : Program} {k : TypeId} {w w' : World} {bm m : Nat} {D : DataW Value} {R : Value → Option (DataW Value × List MemPlace)} (h : w.ownsMap P k R bm m D) (e : w'.heap[bm]? = w.heap[bm]?) : w'.ownsMap P k R bm m D := by
  obtain ⟨es, clock, hb, r⟩ := h
  exact ⟨es, clock, e.trans hb, r⟩
theorem lawI : Keyed Tryd.prog 3 := int_keyed Tryd.underlying3
theorem zeroL (w : World) : (zeroValue 40).run Tryd.prog w = .ok (.slice none 0 0) w := by kernel_rfl
theorem key_i {n : Int} (h : -9223372036854775808 ≤ n ∧ n ≤ 9223372036854775807) : keyOf Tryd.prog 3 (.int .i64 n) = some (.int .i64 n) := keyOf_int_mk Tryd.underlying3 (Go.WalkArith.wf_i64 h)
section
variable {F G S : Nat → Prop} {w w' : World} {t bm made : Nat} {s : Int} {ks : List Nat}
theorem TBx.lt (h : TBx F w t bm s ks made) : t < w.heap.size := World.block_lt_of_cell? w _ h.c0
theorem TBx.blt (h : TBx F w t bm s ks made) : bm < w.heap.size := by
  obtain ⟨D, g, ho, _⟩ := h.map_
  exact ho.lt
theorem TBx.few (h : TBx F w t bm s ks made) : ks.length ≤ 16384 := by
  have := srt_few ks 1 16384 h.srt h.bds
  omega
theorem Cel.fr {g n : Nat} (h : Cel w g n) (hf : Fr S w w') (hS : ¬ S g) : Cel w' g n :=
  ⟨Nat.lt_of_lt_of_le h.lt hf.size, fun j hj => hf.cell (h.at_ j hj) hS⟩
/-- what is written elsewhere leaves it -/
theorem TBx.under (h : TBx F w t bm s ks made) (hf : Fr S w w') (hS : ∀ k, k < w.heap.size → S k → ¬ F k) : TBx F w' t bm s ks made := by
  have ht := h.lt
  have hb := h.blt
  have n1 : ¬ S t := fun hs => hS _ ht hs h.ft
  have n2 : ¬ S bm := fun hs => hS _ hb hs h.fb
  refine ⟨hf.cell h.c0 n1, hf.cell h.c2 n1, hf.cell h.c3 n1, (hf.frozen ht n1).trans h.f0, (hf.frozen ht n1).trans h.f3, h.ne, h.ft, h.fb, h.srt, h.bds, ?_⟩
  obtain ⟨D, g, ho, hk, hc⟩ := h.map_
  exact ⟨D, g, own_blk ho (hf.block bm hb n2), hk, fun x hx => ⟨(hc x hx).1.fr hf fun hs => hS _ (hc x hx).1.lt hs (hc x hx).2, (hc x hx).2⟩⟩
theorem TBx.below (h : TBx F w t bm s ks made) (hb : Below w.heap.size w w') : TBx F w' t bm s ks made :=
  h.under (S := fun k => w.heap.size ≤ k) (Fr.of_below hb fun _ h _ => h) (fun k h1 h2 => absurd h1 (by omega))
theorem TBx.to (h : TBx F w t bm s ks made) (hG : ∀ k, k < w.heap.size → F k → G k) : TBx G w t bm s ks made := by
  obtain ⟨D, g, ho, hk, hc⟩ := h.map_
  exact ⟨h.c0, h.c2, h.c3, h.f0, h.f3, h.ne, hG _ h.lt h.ft, hG _ h.blt h.fb, h.srt, h.bds, D, g, ho, hk, fun x hx => ⟨(hc x hx).1, hG _ (hc x hx).1.lt (hc x hx).2⟩⟩
/-- a row of roots is neither block -/
theorem TBx.row_ne (h : TBx F w t bm s ks made) {g n : Nat} (hc : Cel w g n) (hn : 0 < n) : ¬ tb t bm g := by
  obtain ⟨D, g', ho, _⟩ := h.map_
  have h0 := hc.at_ 0 hn
  rintro (e | e)
  · rw [e, h.c0] at h0; cases h0
  · rw [e, map_cell ho] at h0; cases h0
/-- another Tables is left by what is done to this one -/
theorem TBx.beside {t' bm' made' : Nat} {s' : Int} {ks' : List Nat} (h : TBx F w t bm s ks made) (h' : TBx G w t' bm' s' ks' made') (hf : Fr (tb t' bm') w w') (ht : t ≠ t') (hb : bm ≠ bm') : TBx F w' t bm s ks made := by
  obtain ⟨D', g', ho', _⟩ := h'.map_
  have n1 : ¬ tb t' bm' t := fun e => e.elim ht fun e => by have := h.c0; rw [e, map_cell ho'] at this; cases this
  obtain ⟨D, g, ho, hk, hc⟩ := h.map_
  have n2 : ¬ tb t' bm' bm := fun e => e.elim (fun e => by have := h'.c0; rw [← e, map_cell ho] at this; cases this) hb
  refine ⟨hf.cell h.c0 n1, hf.cell h.c2 n1, hf.cell h.c3 n1, (hf.frozen h.lt n1).trans h.f0, (hf.frozen h.lt n1).trans h.f3, h.ne, h.ft, h.fb, h.srt, h.bds, ?_⟩
  exact ⟨D, g, own_blk ho (hf.block bm h.blt n2), hk, fun x hx => ⟨(hc x hx).1.fr hf (h'.row_ne (hc x hx).1 (h.bds x hx).1), (hc x hx).2⟩⟩
theorem tb_set (v : Value) (i : Nat) : Fr (tb t bm) w (w.setCell ⟨t, i, none⟩ v) := (Fr.refl _ w).setCell (p := ⟨t, i, none⟩) (Or.inl rfl) v
/-- the lock's word is written -/
theorem TBx.set0 (h : TBx F w t bm s ks made) (s' : Int) : TBx F (w.setCell ⟨t, 0, none⟩ (.int .i32 s')) t bm s' ks made := by
  obtain ⟨D, g, ho, hk, hc⟩ := h.map_
  refine ⟨World.cell?_setCell_same _ _ _ h.c0, (World.cell?_setCell_other _ _ _ _ (by simp)).trans h.c2, (World.cell?_setCell_other _ _ _ _ (by simp)).trans h.c3, by rw [World.frozen?_setCell]; exact h.f0, by rw [World.frozen?_setCell]; exact h.f3, h.ne, h.ft, h.fb, h.srt, h.bds, D, g, own_blk ho (Below.heap_setCell _ _ _ _ h.ne), hk, fun x hx => ⟨(hc x hx).1.fr (tb_set (bm := bm) _ 0) (h.row_ne (hc x hx).1 (h.bds x hx).1), (hc x hx).2⟩⟩
/-- the count is written -/
theorem TBx.set3 (h : TBx F w t bm s ks made) (m' : Nat) : TBx F (w.setCell ⟨t, 3, none⟩ (.int .i64 (m' : Int))) t bm s ks m' := by
  obtain ⟨D, g, ho, hk, hc⟩ := h.map_
  refine ⟨(World.cell?_setCell_other _ _ _ _ (by simp)).trans h.c0, (World.cell?_setCell_other _ _ _ _ (by simp)).trans h.c2, World.cell?_setCell_same _ _ _ h.c3, by rw [World.frozen?_setCell]; exact h.f0, by rw [World.frozen?_setCell]; exact h.f3, h.ne, h.ft, h.fb, h.srt, h.bds, D, g, own_blk ho (Below.heap_setCell _ _ _ _ h.ne), hk, fun x hx => ⟨(hc x hx).1.fr (tb_set (bm := bm) _ 3) (h.row_ne (hc x hx).1 (h.bds x hx).1), (hc x hx).2⟩⟩
theorem fr_turned (h : w.mapTurned w' bm) : Fr (tb t bm) w w' := (Fr.refl _ w).grown h.grown fun k e => by cases e; exact Or.inr rfl
/-- a table is put into the map -/
theorem TBx.put (h : TBx F w t bm s ks made) (n G : Nat) (h1 : 1 ≤ n) (h2 : n ≤ 16384) (hG : Cel w G n) (hF : F G) :
    ∃ w', (Instr.mapUpdate 57 (.map (some bm)) (.int .i64 (n : Int)) (.slice (some ⟨G, 0, none⟩) n n)).run Tryd.prog w = .ok () w' ∧ TBx F w' t bm s (ins n ks) made ∧ Fr (tb t bm) w w' ∧ Cel w' G n := by
  obtain ⟨D, g, ho, hk, hc⟩ := h.map_
  obtain ⟨w', r1, r2, r3⟩ := ho.store lawI Tryd.underlying57 (by unfold maxLen; omega) (key_i (n := (n : Int)) (by omega)) (val := .slice (some ⟨G, 0, none⟩) n n) (d := .held (.slice (some ⟨G, 0, none⟩) n n)) (ps := []) rfl
  have hfr : Fr (tb t bm) w w' := fr_turned r3
  have nt : some t ≠ some bm := fun e => h.ne (Option.some.inj e).symm
  have hz : ∀ i, w'.frozen? ⟨t, i, none⟩ = w.frozen? ⟨t, i, none⟩ := fun i => r3.frozen _
  have hcel : ∀ i v, w.cell? ⟨t, i, none⟩ = some v → w'.cell? ⟨t, i, none⟩ = some v := fun i v e => r3.grown.cell (a := ⟨t, i, none⟩) e nt
  have hkd := hk.put ho.isMap n G
  have hsrt := ins_srt (n := n) h.srt
  have hbds : ∀ x ∈ ins n ks, 1 ≤ x ∧ x ≤ 16384 := fun x hx => (mem_ins.1 hx).elim (fun e => by omega) (h.bds x)
  have hfew : (ins n ks).length ≤ 16384 := by have := srt_few _ 1 16384 hsrt hbds; omega
  have hGc := hG.fr hfr (h.row_ne hG h1)
  refine ⟨w', r1, ⟨hcel _ _ h.c0, hcel _ _ h.c2, hcel _ _ h.c3, (hz 0).trans h.f0, (hz 3).trans h.f3, h.ne, h.ft, h.fb, hsrt, hbds, _, _, own_small r2 (by rw [kd_size Tryd.underlying3 r2 hkd hsrt]; exact hfew), hkd, fun x hx => ?_⟩, hfr, hGc⟩
  by_cases c : x = n
  · subst c; rw [if_pos rfl]; exact ⟨hGc, hF⟩
  · rw [if_neg c]
    have hx' := (mem_ins.1 hx).resolve_left c
    exact ⟨(hc x hx').1.fr hfr (h.row_ne (hc x hx').1 (h.bds x hx').1), (hc x hx').2⟩
/-- a table goes -/
theorem TBx.drop (h : TBx F w t bm s ks made) (n : Int) (hn : -9223372036854775808 ≤ n ∧ n ≤ 9223372036854775807) {ks' : List Nat} (hs : ks'.Pairwise (· < ·)) (hsub : ∀ x ∈ ks', x ∈ ks) (hkd' : ∀ D g, KD D ks g → KD (D.del (.int .i64 n)) ks' g) (ty : TypeId) :
    ∃ w', (Builtin.delete_ #[57, 3] ty #[.map (some bm), .int .i64 n]).run Tryd.prog w = .ok (.tuple #[]) w' ∧ TBx F w' t bm s ks' made ∧ Fr (tb t bm) w w' := by
  obtain ⟨D, g, ho, hk, hc⟩ := h.map_
  obtain ⟨w', r1, r2, r3⟩ := ho.drop lawI Tryd.underlying57 (key_i hn) ty
  have hfr : Fr (tb t bm) w w' := fr_turned r3
  have nt : some t ≠ some bm := fun e => h.ne (Option.some.inj e).symm
  have hz : ∀ i, w'.frozen? ⟨t, i, none⟩ = w.frozen? ⟨t, i, none⟩ := fun i => r3.frozen _
  have hcel : ∀ i v, w.cell? ⟨t, i, none⟩ = some v → w'.cell? ⟨t, i, none⟩ = some v := fun i v e => r3.grown.cell (a := ⟨t, i, none⟩) e nt
  exact ⟨w', r1, ⟨hcel _ _ h.c0, hcel _ _ h.c2, hcel _ _ h.c3, (hz 0).trans h.f0, (hz 3).trans h.f3, h.ne, h.ft, h.fb, hs, fun x hx => h.bds x (hsub x hx), _, _, r2, hkd' D g hk, fun x hx => ⟨(hc x (hsub x hx)).1.fr hfr (h.row_ne (hc x (hsub x hx)).1 (h.bds x (hsub x hx)).1), (hc x (hsub x hx)).2⟩⟩, hfr⟩
end
section
variable {w : World} {bm : Nat} {D : DataW Value} {ks : List Nat} {g : Nat → Nat}
theorem lookYes (ho : w.ownsMap Tryd.prog 3 kv8 bm 16384 D) (hk : KD D ks g) {n : Nat} (hn : n ∈ ks) (hl : n ≤ 16384) :
    (Instr.lookup 57 (.map (some bm)) (.int .i64 (n : Int)) true).run Tryd.prog w = .ok (.tuple #[.slice (some ⟨g n, 0, none⟩) n n, .bool true]) w := by
  obtain ⟨v, ps, h1, h2⟩ := ho.look_ok lawI Tryd.underlying57 (zeroL w) (zd := .held (.slice none 0 0)) (zp := []) rfl (key_i (n := (n : Int)) (by omega))
  rw [has_ks hk, decide_eq_true hn] at h1
  rw [hk.at_ n hn] at h2
  cases h2
  exact h1
theorem lookNo (ho : w.ownsMap Tryd.prog 3 kv8 bm 16384 D) (hk : KD D ks g) {n : Int} (hn : ∀ y ∈ ks, n ≠ (y : Int)) (hl : -9223372036854775808 ≤ n ∧ n ≤ 9223372036854775807) :
    (Instr.lookup 57 (.map (some bm)) (.int .i64 n) true).run Tryd.prog w = .ok (.tuple #[.slice none 0 0, .bool false]) w := by
  obtain ⟨v, ps, h1, h2⟩ := ho.look_ok lawI Tryd.underlying57 (zeroL w) (zd := .held (.slice none 0 0)) (zp := []) rfl (key_i hl)
  rw [has_no hk n hn] at h1
  rw [atKey_of_not_has (has_no hk n hn)] at h2
  cases h2
  exact h1
end
theorem cell_at {w : World} {cs : Array Value} {T : TypeId} {fr : Nat × Nat} {b : Nat} (h : w.heap[b]? = some (.cells cs T fr)) (i : Nat) : w.cell? ⟨b, i, none⟩ = cs[i]? := by
  unfold World.cell?
  rw [h]; rfl
theorem frz {w : World} {cs : Array Value} {T : TypeId} {b : Nat} (h : w.heap[b]? = some (.cells cs T)) (i : Nat) : w.frozen? ⟨b, i, none⟩ = false := by
  unfold World.frozen?
  rw [h]; simp
set_option maxHeartbeats 2000000 in
theorem new_c (w : World) :
    Calls Tryd.prog 9 #[] w fun e w' => ∃ t bm, e = .returned (.pointer (some ⟨t, 0, none⟩)) ∧ w.heap.size ≤ t ∧ w.heap.size ≤ bm ∧ TB (fun _ => True) w' t bm [] 0 ∧ Below w.heap.size w w' := by
  have hmm := @run_makeMap Tryd.prog
  have hb : Hid (Below w.heap.size w ((w.alloc (Obj.map #[] 0)).alloc (Obj.cells #[Value.int IntKind.i32 0, Value.int IntKind.u32 0, Value.map (some w.heap.size), Value.int IntKind.i64 0] 66))) :=
    ((Below.refl _ w).alloc (Nat.le_refl _) _).alloc (by simp) _
  go_enter Tryd.func9, Tryd.ntmps9
  go_wp2
  go_ret
  have hn := heap_alloc_new (w.alloc (Obj.map #[] 0)) (Obj.cells #[Value.int IntKind.i32 0, Value.int IntKind.u32 0, Value.map (some w.heap.size), Value.int IntKind.i64 0] 66)
  rw [World.size_alloc] at hn
  have hc := cell_at hn
  refine ⟨w.heap.size + 1, w.heap.size, rfl, by omega, Nat.le_refl _, ⟨hc 0, hc 2, hc 3, frz hn 0, frz hn 3, by omega, trivial, trivial, List.Pairwise.nil, fun x hx => by simp at hx, ?_⟩, hb.out⟩
  exact ⟨_, fun _ => 0, ((World.ownsMap_made w Tryd.prog 3 kv8).alloc _).mono (Nat.zero_le _), KD.empty _, fun x hx => by simp at hx⟩
section
variable {F : Nat → Prop} {w : World} {t bm made : Nat} {ks : List Nat}
set_option maxHeartbeats 2000000 in
theorem tableYes_c (h : TB F w t bm ks made) (n : Nat) (hn : n ∈ ks) :
    Calls Tryd.prog 27 #[.pointer (some ⟨t, 0, none⟩), .int .i64 (n : Int)] w fun e w' => ∃ g, e = .returned (.tuple #[.slice (some ⟨g, 0, none⟩) n n, .nilIface]) ∧ TB F w' t bm ks made ∧ Fr (tb t bm) w w' ∧ Cel w' g n := by
  have k1 : Hid (TBx F (w.setCell ⟨t, 0, none⟩ (.int .i32 1)) t bm 1 ks made) := h.set0 1
  obtain ⟨D, g, ho, hk, hc⟩ := k1.out.map_
  have c0 := h.c0
  have f0 := h.f0
  have e1 := k1.out.c2
  have hr := lookYes ho hk hn (h.bds n hn).2
  have k2 : Hid (Cel (w.setCell ⟨t, 0, none⟩ (.int .i32 1)) (g n) n) := (hc n hn).1
  have hp : Hid (0 < n) := (h.bds n hn).1
  clear h hc hk ho
  go_enter_defers Tryd.func27, Tryd.ntmps27
  go_wp2_with (go_at_call 30; refine (lock_free muLib ⟨t, 0, none⟩ _ c0 f0).mono ?_; rintro e w' ⟨rfl, rfl⟩)
  refine leaves_cons (f := 31) (args := #[.pointer (some ⟨t, 0, none⟩)]) (by simp) (by simp [go_sem]) ?_
  refine (unlock_deferred muLib ⟨t, 0, none⟩ .returning _ k1.out.c0 k1.out.f0).mono ?_
  rintro e u' w'' ⟨rfl, rfl, rfl⟩
  refine ⟨_, results_tmp2 rfl _ _ _, g n, rfl, k1.out.set0 0, (tb_set _ 0).then (tb_set _ 0), k2.out.fr (tb_set (bm := bm) _ 0) (k1.out.row_ne k2.out hp.out)⟩
set_option maxHeartbeats 2000000 in
theorem tableNew_c (h : TB F w t bm ks made) (n : Nat) (hn : n ∉ ks) (h1 : 1 ≤ n) (h2 : n ≤ 16384) (hm : made < 4611686018427387904) (hF : ∀ k, w.heap.size ≤ k → F k) :
    Calls Tryd.prog 27 #[.pointer (some ⟨t, 0, none⟩), .int .i64 (n : Int)] w fun e w' => ∃ g, e = .returned (.tuple #[.slice (some ⟨g, 0, none⟩) n n, .nilIface]) ∧ TB F w' t bm (ins n ks) (made + 1) ∧ Fr (tb t bm) w w' ∧ Cel w' g n := by
  have k1 : Hid (TBx F (w.setCell ⟨t, 0, none⟩ (.int .i32 1)) t bm 1 ks made) := h.set0 1
  obtain ⟨D, g, ho, hk, hc⟩ := k1.out.map_
  have c0 := h.c0
  have f0 := h.f0
  have e1 := k1.out.c2
  have hr := lookNo (n := (n : Int)) ho hk (fun y hy e => hn (by rw [show n = y by omega]; exact hy)) (by omega)
  have hsz : Hid ((w.setCell ⟨t, 0, none⟩ (.int .i32 1)).heap.size = w.heap.size) := (by simp [World.setCell] : (w.setCell ⟨t, 0, none⟩ (.int .i32 1)).heap.size = w.heap.size)
  have kf : Hid (Fr (tb t bm) w (w.setCell ⟨t, 0, none⟩ (.int .i32 1))) := tb_set _ 0
  clear h hc hk ho hn
  go_enter_defers Tryd.func27, Tryd.ntmps27
  go_wp2_with (go_at_call 30; refine (lock_free muLib ⟨t, 0, none⟩ _ c0 f0).mono ?_; rintro e w' ⟨rfl, rfl⟩)
  generalize w.setCell ⟨t, 0, none⟩ (.int .i32 1) = wa at *
  refine (allOk_c n wa h1 h2).mono ?_
  rintro e w2 ⟨G, rfl, g1, o1, B2⟩
  have k2 : TBx F w2 t bm 1 ks made := k1.out.below B2
  obtain ⟨w3, r3, k3, fr3, cG⟩ := k2.put n G h1 h2 (Cel.own o1 h1) (hF G (by rw [← hsz.out]; exact g1))
  have e2 := k2.c2
  have e3 := k3.c3
  have z3 := k3.f3
  have kf3 : Hid (Fr (tb t bm) w w3) := (kf.out.then (Fr.of_below B2 fun k a b => absurd b (by omega))).then fr3
  have k3' : Hid (TBx F w3 t bm 1 (ins n ks) made) := k3
  have cG' : Hid (Cel w3 G n) := cG
  clear k1 k2 k3 kf fr3 B2 o1 g1 hsz cG hr e1
  have k4 : Hid (TBx F (w3.setCell ⟨t, 3, none⟩ (.int .i64 ((made : Int) + 1))) t bm 1 (ins n ks) (made + 1)) := k3'.out.set3 (made + 1)
  have kf4 : Hid (Fr (tb t bm) w (w3.setCell ⟨t, 3, none⟩ (.int .i64 ((made : Int) + 1)))) := kf3.out.then (tb_set _ 3)
  have cG4 : Hid (Cel (w3.setCell ⟨t, 3, none⟩ (.int .i64 ((made : Int) + 1))) G n) := cG'.out.fr (tb_set (bm := bm) _ 3) (k3'.out.row_ne cG'.out h1)
  clear k3' kf3 cG'
  go_wp2_with fail
  refine leaves_cons (f := 31) (args := #[.pointer (some ⟨t, 0, none⟩)]) (by simp) (by simp [go_sem]) ?_
  refine (unlock_deferred muLib ⟨t, 0, none⟩ .returning _ k4.out.c0 k4.out.f0).mono ?_
  rintro e u' w'' ⟨rfl, rfl, rfl⟩
  refine ⟨_, results_tmp2 rfl _ _ _, G, rfl, k4.out.set0 0, kf4.out.then (tb_set _ 0), cG4.out.fr (tb_set (bm := bm) _ 0) (k4.out.row_ne cG4.out h1)⟩
/-- the sentinels lie elsewhere -/
def EK (w : World) (t bm : Nat) (al : List Addr) : Prop := ∀ W, Fr (tb t bm) w W → Errs W al
theorem EK.now {al : List Addr} (h : EK w t bm al) : Errs w al := h w (Fr.refl _ w)
theorem EK.fr {al : List Addr} {w' : World} (h : EK w t bm al) (hf : Fr (tb t bm) w w') : EK w' t bm al := fun W hW => h W (hf.then hW)
theorem EK.mk {al : List Addr} {w0 : World} (he : Errs w0 al) (hb : Below w0.heap.size w0 w) (ht : w0.heap.size ≤ t) (hm : w0.heap.size ≤ bm) : EK w t bm al :=
  fun _ hW => he.below (hW.below hb hb.size fun k _ hk => by rcases hk with rfl | rfl <;> assumption)
set_option maxHeartbeats 2000000 in
theorem tableNo_c (h : TB F w t bm ks made) (n : Int) (hn : inn n = false) (hb : -9223372036854775808 ≤ n ∧ n ≤ 9223372036854775807) (al : List Addr) (he : EK w t bm al) :
    Calls Tryd.prog 27 #[.pointer (some ⟨t, 0, none⟩), .int .i64 n] w fun e w' => e = .returned (.tuple #[.slice none 0 0, ek al 6]) ∧ TB F w' t bm ks made ∧ Fr (tb t bm) w w' := by
  have k1 : Hid (TBx F (w.setCell ⟨t, 0, none⟩ (.int .i32 1)) t bm 1 ks made) := h.set0 1
  obtain ⟨D, g, ho, hk, hc⟩ := k1.out.map_
  have c0 := h.c0
  have f0 := h.f0
  have e1 := k1.out.c2
  have hr := lookNo (n := n) ho hk (fun y hy e => by
    have h1 := h.bds y hy
    have h2 : ¬ (1 ≤ n ∧ n ≤ 16384) := of_decide_eq_false hn
    omega) hb
  have kf : Hid (Fr (tb t bm) w (w.setCell ⟨t, 0, none⟩ (.int .i32 1))) := tb_set _ 0
  have ke : Hid (Errs (w.setCell ⟨t, 0, none⟩ (.int .i32 1)) al) := he _ kf.out
  clear h hc hk ho he hb
  go_enter_defers Tryd.func27, Tryd.ntmps27
  go_wp2_with (go_at_call 30; refine (lock_free muLib ⟨t, 0, none⟩ _ c0 f0).mono ?_; rintro e w' ⟨rfl, rfl⟩)
  generalize w.setCell ⟨t, 0, none⟩ (.int .i32 1) = wa at *
  refine (allNo_c n wa al ke.out hn).mono ?_
  rintro e w2 ⟨rfl, B2⟩
  have k2 : Hid (TBx F w2 t bm 1 ks made) := k1.out.below B2
  have kf2 : Hid (Fr (tb t bm) w w2) := kf.out.then (Fr.of_below B2 fun k a b => absurd b (by omega))
  have hne := nnil_c al 6
  have hgd := guard_c al 6
  clear k1 kf ke B2 hr e1
  go_wp2_with fail
  refine leaves_cons (f := 31) (args := #[.pointer (some ⟨t, 0, none⟩)]) (by simp) (by simp [go_sem]) ?_
  refine (unlock_deferred muLib ⟨t, 0, none⟩ .returning _ k2.out.c0 k2.out.f0).mono ?_
  rintro e u' w'' ⟨rfl, rfl, rfl⟩
  exact ⟨_, results_tmp2 rfl _ _ _, rfl, k2.out.set0 0, kf2.out.then (tb_set _ 0)⟩
/-- how many have been made behind an asking for n -/
def nm (n : Nat) (ks : List Nat) (made : Nat) : Nat := if n ∈ ks then made else made + 1
theorem nm_in {n : Nat} {ks : List Nat} {made : Nat} (h : n ∈ ks) : nm n ks made = made := if_pos h
theorem nm_out {n : Nat} {ks : List Nat} {made : Nat} (h : n ∉ ks) : nm n ks made = made + 1 := if_neg h
theorem nm_le (n : Nat) (ks : List Nat) (made : Nat) : nm n ks made ≤ made + 1 := by unfold nm; split <;> omega
theorem table_c (h : TB F w t bm ks made) (n : Nat) (h1 : 1 ≤ n) (h2 : n ≤ 16384) (hm : made < 4611686018427387904) (hF : n ∈ ks ∨ ∀ k, w.heap.size ≤ k → F k) :
    Calls Tryd.prog 27 #[.pointer (some ⟨t, 0, none⟩), .int .i64 (n : Int)] w fun e w' => ∃ g, e = .returned (.tuple #[.slice (some ⟨g, 0, none⟩) n n, .nilIface]) ∧ TB F w' t bm (ins n ks) (nm n ks made) ∧ Fr (tb t bm) w w' ∧ Cel w' g n := by
  by_cases hn : n ∈ ks
  · rw [ins_in h.srt hn, nm_in hn]; exact tableYes_c h n hn
  · rw [nm_out hn]; exact tableNew_c h n hn h1 h2 hm (hF.resolve_left hn)
theorem ret_ce {a b : Nat} {v : Value} {c d : Nat} (h : a = c) (h' : b = d) : Ending.returned (.tuple #[.complex .f64 a b, v]) = .returned (.tuple #[.complex .f64 c d, v]) := by rw [h, h']
set_option maxHeartbeats 2000000 in
theorem at_c (h : TB F w t bm ks made) (n : Nat) (k : Int) (h1 : 1 ≤ n) (h2 : n ≤ 16384) (hm : made < 4611686018427387904) (hF : n ∈ ks ∨ ∀ k, w.heap.size ≤ k → F k) :
    Calls Tryd.prog 12 #[.pointer (some ⟨t, 0, none⟩), .int .i64 (n : Int), .int .i64 k] w fun e w' => e = .returned (.tuple #[.complex .f64 (Rp.pc n (Rp.md n k)) (Rp.pim n (Rp.md n k)), .nilIface]) ∧ TB F w' t bm (ins n ks) (nm n ks made) ∧ Fr (tb t bm) w w' := by
  have ht := table_c h n h1 h2 hm hF
  have g1 := Int.lt_tmod_of_pos k (show (0 : Int) < n by omega)
  have g2 := Int.tmod_lt_of_pos k (show (0 : Int) < n by omega)
  have hml := Rp.md_lt h1 k
  obtain ⟨x, hx⟩ : ∃ x, Hid (Rp.pc n (Rp.md n k) = x) := ⟨_, rfl⟩
  obtain ⟨y, hy⟩ : ∃ y, Hid (Rp.pim n (Rp.md n k) = y) := ⟨_, rfl⟩
  rw [hx.out, hy.out]
  clear h hm hF
  by_cases hk : k.tmod n < 0
  · have e : Hid (k.tmod n + n = ((Rp.md n k : Nat) : Int)) := tmod_neg h1 hk
    go_enter Tryd.func12, Tryd.ntmps12
    go_wp2_with fail
    refine ht.mono ?_
    rintro e1 w1 ⟨g, rfl, T1, F1, C1⟩
    have T1' : Hid (TB F w1 t bm (ins n ks) (nm n ks made)) := T1
    have F1' : Hid (Fr (tb t bm) w w1) := F1
    have c1 : w1.cell? ⟨g, (k.tmod n + n).toNat, none⟩ = some (.complex .f64 x y) := by
      rw [e.out, Int.toNat_natCast, ← hx.out, ← hy.out]; exact C1.at_ (Rp.md n k) hml
    clear T1 F1 C1 ht e hml
    go_wp2_with fail
    go_ret2
    exact ⟨rfl, T1'.out, F1'.out⟩
  · have e : Hid (k.tmod n = ((Rp.md n k : Nat) : Int)) := tmod_pos h1 (by omega)
    have hk' : decide (k.tmod n < 0) = false := decide_eq_false hk
    go_enter Tryd.func12, Tryd.ntmps12
    go_wp2_with fail
    refine ht.mono ?_
    rintro e1 w1 ⟨g, rfl, T1, F1, C1⟩
    have T1' : Hid (TB F w1 t bm (ins n ks) (nm n ks made)) := T1
    have F1' : Hid (Fr (tb t bm) w w1) := F1
    have c1 : w1.cell? ⟨g, (k.tmod n).toNat, none⟩ = some (.complex .f64 x y) := by
      rw [e.out, Int.toNat_natCast, ← hx.out, ← hy.out]; exact C1.at_ (Rp.md n k) hml
    clear T1 F1 C1 ht e hml
    go_wp2_with fail
    go_ret2
    exact ⟨rfl, T1'.out, F1'.out⟩
set_option maxHeartbeats 2000000 in
theorem atNo_c (h : TB F w t bm ks made) (n k : Int) (hn : inn n = false) (hb : -9223372036854775808 ≤ n ∧ n ≤ 9223372036854775807) (al : List Addr) (he : EK w t bm al) :
    Calls Tryd.prog 12 #[.pointer (some ⟨t, 0, none⟩), .int .i64 n, .int .i64 k] w fun e w' => e = .returned (.tuple #[.complex .f64 0 0, ek al 6]) ∧ TB F w' t bm ks made ∧ Fr (tb t bm) w w' := by
  have ht := tableNo_c h n hn hb al he
  have hne := nnil_c al 6
  have hgd := guard_c al 6
  clear h he hn hb
  go_enter Tryd.func12, Tryd.ntmps12
  go_wp2_with fail
  refine ht.mono ?_
  rintro e1 w1 ⟨rfl, T1, F1⟩
  have T1' : Hid (TB F w1 t bm ks made) := T1
  have F1' : Hid (Fr (tb t bm) w w1) := F1
  clear T1 F1 ht
  go_wp2_with fail
  go_ret2
  exact ⟨rfl, T1'.out, F1'.out⟩
set_option maxHeartbeats 2000000 in
theorem listNo_c (h : TB F w t bm ks made) (n : Int) (hn : inn n = false) (hb : -9223372036854775808 ≤ n ∧ n ≤ 9223372036854775807) (al : List Addr) (he : EK w t bm al) :
    Calls Tryd.prog 13 #[.pointer (some ⟨t, 0, none⟩), .int .i64 n] w fun e w' => e = .returned (.tuple #[.slice none 0 0, ek al 6]) ∧ TB F w' t bm ks made ∧ Fr (tb t bm) w w' := by
  have ht := tableNo_c h n hn hb al he
  have hne := nnil_c al 6
  have hgd := guard_c al 6
  clear h he hn hb
  go_enter Tryd.func13, Tryd.ntmps13
  go_wp2_with fail
  refine ht.mono ?_
  rintro e1 w1 ⟨rfl, T1, F1⟩
  have T1' : Hid (TB F w1 t bm ks made) := T1
  have F1' : Hid (Fr (tb t bm) w w1) := F1
  clear T1 F1 ht
  go_wp2_with fail
  go_ret2
  exact ⟨rfl, T1'.out, F1'.out⟩
set_option maxHeartbeats 2000000 in
theorem made_c (h : TB F w t bm ks made) :
    Calls Tryd.prog 15 #[.pointer (some ⟨t, 0, none⟩)] w fun e w' => e = .returned (.int .i64 (made : Int)) ∧ TB F w' t bm ks made ∧ Fr (tb t bm) w w' := by
  have k1 : Hid (TBx F (w.setCell ⟨t, 0, none⟩ (.int .i32 1)) t bm 1 ks made) := h.set0 1
  have c0 := h.c0
  have f0 := h.f0
  have e3 := k1.out.c3
  clear h
  go_enter_defers Tryd.func15, Tryd.ntmps15
  go_wp2_with (go_at_call 30; refine (lock_free muLib ⟨t, 0, none⟩ _ c0 f0).mono ?_; rintro e w' ⟨rfl, rfl⟩)
  refine leaves_cons (f := 31) (args := #[.pointer (some ⟨t, 0, none⟩)]) (by simp) (by simp [go_sem]) ?_
  refine (unlock_deferred muLib ⟨t, 0, none⟩ .returning _ k1.out.c0 k1.out.f0).mono ?_
  rintro e u' w'' ⟨rfl, rfl, rfl⟩
  exact ⟨_, results_tmp rfl _ _ _, rfl, k1.out.set0 0, (tb_set _ 0).then (tb_set _ 0)⟩
set_option maxHeartbeats 2000000 in
theorem drop_x (h : TB F w t bm ks made) (n : Int) (hb : -9223372036854775808 ≤ n ∧ n ≤ 9223372036854775807) {ks' : List Nat} (hs : ks'.Pairwise (· < ·)) (hsub : ∀ x ∈ ks', x ∈ ks) (hkd' : ∀ D g, KD D ks g → KD (D.del (.int .i64 n)) ks' g)
    (v : Value) (b : Bool) (hr : (Instr.lookup 57 (.map (some bm)) (.int .i64 n) true).run Tryd.prog (w.setCell ⟨t, 0, none⟩ (.int .i32 1)) = .ok (.tuple #[v, .bool b]) (w.setCell ⟨t, 0, none⟩ (.int .i32 1))) :
    Calls Tryd.prog 16 #[.pointer (some ⟨t, 0, none⟩), .int .i64 n] w fun e w' => e = .returned (.bool b) ∧ TB F w' t bm ks' made ∧ Fr (tb t bm) w w' := by
  have k1 : Hid (TBx F (w.setCell ⟨t, 0, none⟩ (.int .i32 1)) t bm 1 ks made) := h.set0 1
  have c0 := h.c0
  have f0 := h.f0
  have e1 := k1.out.c2
  obtain ⟨w2, r2, T2, F2⟩ := k1.out.drop n hb hs hsub hkd' 0
  have k2 : Hid (TBx F w2 t bm 1 ks' made) := T2
  have kf : Hid (Fr (tb t bm) w w2) := (tb_set (.int .i32 1) 0).then F2
  clear h hb hs hsub hkd' T2 F2 k1
  go_enter_defers Tryd.func16, Tryd.ntmps16
  go_wp2_with (go_at_call 30; refine (lock_free muLib ⟨t, 0, none⟩ _ c0 f0).mono ?_; rintro e w' ⟨rfl, rfl⟩)
  refine leaves_cons (f := 31) (args := #[.pointer (some ⟨t, 0, none⟩)]) (by simp) (by simp [go_sem]) ?_
  refine (unlock_deferred muLib ⟨t, 0, none⟩ .returning _ k2.out.c0 k2.out.f0).mono ?_
  rintro e u' w'' ⟨rfl, rfl, rfl⟩
  exact ⟨_, results_tmp rfl _ _ _, rfl, k2.out.set0 0, kf.out.then (tb_set _ 0)⟩
theorem drop_c (h : TB F w t bm ks made) (n : Nat) (hn : n ≤ 16384) :
    Calls Tryd.prog 16 #[.pointer (some ⟨t, 0, none⟩), .int .i64 (n : Int)] w fun e w' => e = .returned (.bool (decide (n ∈ ks))) ∧ TB F w' t bm (del n ks) made ∧ Fr (tb t bm) w w' := by
  obtain ⟨D, g, ho, hk, hc⟩ := (h.set0 1).map_
  by_cases c : n ∈ ks
  · rw [decide_eq_true c]
    exact drop_x h (n : Int) (by omega) (del_srt h.srt) (fun x hx => (mem_del.1 hx).1) (fun D g hk => hk.del n) _ true (lookYes ho hk c (h.bds n c).2)
  · rw [decide_eq_false c, del_out c]
    have hno : ∀ y ∈ ks, (n : Int) ≠ (y : Int) := fun y hy e => c (by rw [show n = y by omega]; exact hy)
    exact drop_x h (n : Int) (by omega) h.srt (fun x hx => hx) (fun D g hk => hk.delNo _ hno) _ false (lookNo ho hk hno (by omega))
theorem dropNo_c (h : TB F w t bm ks made) (n : Int) (hn : inn n = false) (hb : -9223372036854775808 ≤ n ∧ n ≤ 9223372036854775807) :
    Calls Tryd.prog 16 #[.pointer (some ⟨t, 0, none⟩), .int .i64 n] w fun e w' => e = .returned (.bool false) ∧ TB F w' t bm ks made ∧ Fr (tb t bm) w w' := by
  obtain ⟨D, g, ho, hk, hc⟩ := (h.set0 1).map_
  have hno : ∀ y ∈ ks, n ≠ (y : Int) := fun y hy e => by
    have h1 := h.bds y hy
    have h2 : ¬ (1 ≤ n ∧ n ≤ 16384) := of_decide_eq_false hn
    omega
  exact drop_x h n hb h.srt (fun x hx => hx) (fun D g hk => hk.delNo _ hno) _ false (lookNo ho hk hno hb)
end
end Go.Proofs.YtljopkmpcolgfaaDoor
