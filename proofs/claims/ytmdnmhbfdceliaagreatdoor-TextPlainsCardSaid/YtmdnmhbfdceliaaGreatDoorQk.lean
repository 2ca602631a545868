/-
  timbrenat: whole numbers of 32-bit words: trim, Of.
-/
import Derived.Test.YtmdnmhbfdceliaaGreatDoorQb
import Derived.Laws.MakeOwn
import Derived.Test.YtmdnmhbfdceliaaGreatDoorQc
import Derived.Test.YtmdnmhbfdceliaaGreatDoorQd
import Derived.Test.YtmdnmhbfdceliaaGreatDoorQe
import Derived.Shelf.Spec.TrailingZeros
namespace Go.Proofs.YtmdnmhbfdceliaaGreatDoor
open Flo Go.RowKit
/-- the base of timbrenat's numbers -/
def W32 : Nat := 4294967296
theorem W32_2 : 2 ≤ W32 := by decide
theorem W32_0 : 0 < W32 := by decide
theorem wd32 (n i : Nat) : Wd.wd W32 n i < 4294967296 := Wd.wd_lt W32_0 n i
/-- a number in memory -/
def Nm (w : World) (B : Nat) (v : Value) (n : Nat) : Prop := Row 87 .u32 w B v (Wd.nw W32 n) (Wd.wd W32 n)
theorem Nm.under {w w' : World} {B n : Nat} {v : Value} (h : Nm w B v n) (hb : Below w.heap.size w w') : Nm w' B v n := Row.under h hb
theorem Nm.mono {w : World} {B C n : Nat} {v : Value} (h : Nm w B v n) (hC : C ≤ B) : Nm w C v n := Row.mono h hC
theorem infoU32 : (Tryz.prog.info? 87).map (fun i => (i.zero, i.size, i.bytes)) = some (some (.int .u32 0), 1, 4) := by kernel_rfl
set_option maxHeartbeats 1000000 in
theorem ntrim_0 (ao : Option Addr) (cap : Nat) (w : World) :
    Calls Tryz.prog 61 #[.slice ao 0 cap] w fun e w' => e = .returned (.slice ao 0 cap) ∧ w = w' := by
  go_enter Tryz.func61, Tryz.ntmps61
  go_wp2
  refine wp_loop_rounds 1 ?_
  rw [rounds_succ]
  go_wp2
  go_ret
  exact ⟨rfl, rfl⟩
theorem Row.take {T : TypeId} {κ : IntKind} {w : World} {B g cap : Nat} {f : Nat → Nat} (j : Nat) : ∀ k, Row T κ w B (.slice (some ⟨g, 0, none⟩) (j + k) cap) (j + k) f → Row T κ w B (.slice (some ⟨g, 0, none⟩) j cap) j f
  | 0, h => h
  | k + 1, h => Row.take j k (Row.pop (by rw [Nat.add_assoc]; exact h))
set_option maxHeartbeats 1000000 in
theorem ntrim_n (B g k cap n : Nat) (w : World) (hr : Hid (Row 87 .u32 w B (.slice (some ⟨g, 0, none⟩) k cap) k (Wd.wd W32 n))) (hkm : k ≤ 1000000) (hcap : k ≤ cap) (hn : Hid (n < W32 ^ k)) :
    Calls Tryz.prog 61 #[.slice (some ⟨g, 0, none⟩) k cap] w fun e w' => e = .returned (.slice (some ⟨g, 0, none⟩) (Wd.nw W32 n) cap) ∧ w = w' := by
  go_enter Tryz.func61, Tryz.ntmps61
  go_wp2
  go_loop [3] (fun s => ∃ j : Nat, j ≤ k ∧ s = .int .i64 j ∧ Hid (n < W32 ^ j)) (fun s => (intOf s).toNat)
  case atStart => exact ⟨k, Nat.le_refl _, rfl, hn⟩
  case round =>
    obtain ⟨j, hj, rfl, hnj⟩ := hrel
    by_cases h0 : j = 0
    · subst h0
      have hz : Hid (Wd.nw W32 n = 0) := by
        have h1 : n < 1 := by have := hnj.out; rwa [Nat.pow_zero] at this
        rw [show n = 0 by omega]; exact Wd.nw_zero _
      go_wp2
      go_ret
      rw [hz.out]
      exact ⟨rfl, rfl⟩
    · obtain ⟨i, rfl⟩ : ∃ i, j = i + 1 := ⟨j - 1, by omega⟩
      have hc := hr.out.cell i (by omega)
      by_cases hz : Wd.wd W32 n i = 0
      · have hn' : Hid (n < W32 ^ i) := Wd.nw_lt_of_top W32_2 hnj.out hz
        rw [hz] at hc
        go_wp2
        go_round
        case rel => exact ⟨i, by omega, by go_num, hn'⟩
        case measure => simp [intOf]
      · have hw : Hid (Wd.nw W32 n = i + 1) := Wd.nw_of_top W32_2 hnj.out hz
        generalize Wd.wd W32 n i = x at hc hz
        have hz' : ((x : Int) == 0) = false := beq_eq_false_iff_ne.2 (by omega)
        clear hz
        go_wp2
        go_ret
        rw [hw.out]
        exact ⟨rfl, rfl⟩
theorem ntrim_c (B k n : Nat) (v : Value) (w : World) (hr : Row 87 .u32 w B v k (Wd.wd W32 n)) (hn : n < W32 ^ k) (hk : k ≤ 1000000) :
    Calls Tryz.prog 61 #[v] w fun e w' => ∃ v', e = .returned v' ∧ Nm w B v' n ∧ w = w' := by
  rcases hr.cases with ⟨rfl, rfl⟩ | ⟨g, cap, rfl, _⟩
  · have hz : Wd.nw W32 n = 0 := by
      have h1 : n < 1 := by rwa [Nat.pow_zero] at hn
      rw [show n = 0 by omega]; exact Wd.nw_zero _
    refine (ntrim_0 _ _ w).mono ?_
    rintro e w' ⟨rfl, rfl⟩
    exact ⟨_, rfl, by unfold Nm; rw [hz]; exact hr, rfl⟩
  · have hcap : k ≤ cap := by
      rcases hr.2 with ⟨h, _⟩ | ⟨g', cap', cur, h, _, _, h2, _⟩
      · cases h
      · cases h; exact h2
    refine (ntrim_n B g k cap n w hr hk hcap hn).mono ?_
    rintro e w' ⟨rfl, rfl⟩
    have hle := Wd.nw_le W32_2 hn
    obtain ⟨d, hd⟩ : ∃ d, k = Wd.nw W32 n + d := ⟨k - Wd.nw W32 n, by omega⟩
    refine ⟨_, rfl, ?_, rfl⟩
    unfold Nm
    rw [hd] at hr
    exact Row.take _ d hr
theorem wd32_0 {x : Nat} : Wd.wd W32 x 0 = x % 4294967296 := by unfold Wd.wd; rw [Nat.pow_zero, Nat.div_one]; rfl
theorem wd32_1 {x : Nat} (h : x < 18446744073709551616) : Wd.wd W32 x 1 = x / 4294967296 := by
  unfold Wd.wd
  rw [Nat.pow_one]
  show x / 4294967296 % 4294967296 = _
  omega
set_option maxRecDepth 100000 in
set_option maxHeartbeats 1000000 in
theorem nof_c (x : Nat) (w : World) (hx : x < 18446744073709551616) :
    Calls Tryz.prog 34 #[.int .u64 x] w fun e w' => ∃ v', e = .returned v' ∧ Nm w' w.heap.size v' x ∧ Below w.heap.size w w' := by
  have hrow : Hid (Row 87 .u32 (w.alloc (.cells #[.int .u32 ((x % 4294967296 : Nat) : Int), .int .u32 ((x / 4294967296 : Nat) : Int)] 87)) w.heap.size (.slice (some ⟨w.heap.size, 0, none⟩) 2 2) 2 (Wd.wd W32 x)) := by
    have h2 : Row 87 .u32 (w.alloc (.cells #[.int .u32 ((x % 4294967296 : Nat) : Int), .int .u32 ((x / 4294967296 : Nat) : Int)] 87)) w.heap.size (.slice (some ⟨w.heap.size, 0, none⟩) 2 2) 2 (fun j => if j = 0 then x % 4294967296 else x / 4294967296) := World.ownsRow_lit (base := w.heap.size) (e := 87) (size := 1) w #[.int .u32 ((x % 4294967296 : Nat) : Int), .int .u32 ((x / 4294967296 : Nat) : Int)] 2 (Nat.le_refl _) (by decide) rfl
    exact h2.congr fun j hj => by
      by_cases h : j = 0
      · rw [if_pos h, h, wd32_0]
      · rw [if_neg h, show j = 1 by omega, wd32_1 hx]
  have e1 : IntKind.u32.wrap (x : Int) = ((x % 4294967296 : Nat) : Int) := by simp only [IntKind.wrap_u32]; omega
  have e2 : IntKind.u32.wrap ((x : Int) / 4294967296) = ((x / 4294967296 : Nat) : Int) := by simp only [IntKind.wrap_u32]; omega
  have hlt : Hid (x < W32 ^ 2) := hx
  clear hx
  go_enter Tryz.func34, Tryz.ntmps34
  go_wp2_with fail
  refine (ntrim_c w.heap.size 2 x _ _ hrow.out hlt.out (by decide)).mono ?_
  rintro e w' ⟨v', rfl, hv, rfl⟩
  have hvH : Hid (Nm _ w.heap.size v' x) := hv
  clear hv
  go_wp2
  go_ret
  exact ⟨_, rfl, hvH.out, (Below.refl _ _).alloc (Nat.le_refl _) _⟩
end Go.Proofs.YtmdnmhbfdceliaaGreatDoor
/-
  timbrenat: rows that are made and appended to; MulAdd.
-/
namespace Go.Proofs.YtmdnmhbfdceliaaGreatDoor
open Flo Go.RowKit
theorem make32 (w : World) (l c : Nat) (hl : l ≤ c) (hc : c ≤ 100000000) :
    ∃ w', (Instr.makeSlice 58 (.int .i64 (l : Int)) (.int .i64 (c : Int))).run Tryz.prog w = .ok (.slice (some ⟨w.heap.size, 0, none⟩) l c) w' ∧
      Hid (Row 87 .u32 w' w.heap.size (.slice (some ⟨w.heap.size, 0, none⟩) l c) l (fun _ => 0)) ∧ Hid (Below w.heap.size w w') := by
  obtain ⟨i0, hi0, hz0, hz1, hz2⟩ := info_parts infoU32
  have h := run_make (P := Tryz.prog) w 58 87 i0 (.int .u32 0) Tryz.underlying58 hi0 hz0 .i64 .i64 l c (by omega) (by omega) (by rw [hz2]; omega) (by omega)
  simp only [Int.toNat_natCast, hz1, Nat.mul_one] at h
  refine ⟨_, h, ?_, (Below.refl _ _).alloc (Nat.le_refl _) _⟩
  refine ⟨by rw [Cl_len, Nat.mul_one], .inr ⟨_, c, _, rfl, Nat.le_refl _, heap_alloc_new w _, hl, by unfold maxLen; omega, by rw [size_madeCells, Nat.mul_one], ?_⟩⟩
  have e : (Value.int .u32 0).cells = #[.int .u32 0] := rfl
  rw [e, toList_madeCells_one, Nat.mul_one]
  apply List.ext_getElem?
  intro j
  by_cases hj : j < l
  · rw [Cl_get .u32 _ hj]
    rw [List.getElem?_take, if_pos hj, List.getElem?_replicate, if_pos (by omega)]; rfl
  · rw [List.getElem?_eq_none (by simp; omega), List.getElem?_eq_none (by rw [Cl_len]; omega)]
/-- one word more -/
theorem app32 {ops : Array Oper} {rest : List Oper} {o : Oper} {a : Act} {Q : Exit → Act → World → Prop} (w : World) (hgd : o.guard = none) (s x : Operand)
    (ho : o.op = .call { callee := .builtin .append, args := #[s, x], argTypes := #[58, 58] })
    (B k y g : Nat) (f : Nat → Nat) (v : Value) (hs : a.eval s = v) (hx : a.eval x = .slice (some ⟨g, 0, none⟩) 1 1) (hrow : Row 87 .u32 w B v k f)
    (hcell : w.cell? ⟨g, 0, none⟩ = some (.int .u32 (y : Int))) (hy : f k = y) (hk : k ≤ 1000000) (hB : B ≤ w.heap.size)
    (h : ∀ v' w', Row 87 .u32 w' B v' (k + 1) f → Below B w w' → wpList Tryz.prog ops Q rest (a.put o.dst v') w') : wpList Tryz.prog ops Q (o :: rest) a w := by
  obtain ⟨i0, hi0, hz0, hz1, hz2⟩ := info_parts infoU32
  refine wpList_append_fr w hgd s x 58 ho B 87 i0 (.int .u32 0) 1 4 Tryz.underlying58 hi0 hz0 hz1 hz2 rfl (by decide) v k _ hs hrow ⟨g, 0, none⟩ 1 1 [.int .u32 (y : Int)] hx rfl ?_ ?_ ?_ ?_ hB ?_
  · intro j u hj
    match j, hj with
    | 0, hj => simp at hj; subst hj; simpa [Addr.add] using hcell
  · intro u hu; simp at hu; subst hu; rfl
  · unfold maxLen; omega
  · omega
  · intro v' w1 hown' hgrow _
    refine h v' w1 ?_ ((Below.refl B w).grown hgrow hB (fun k' hk' => (hrow.lt k' hk').1))
    show World.ownsRow _ _ _ _ _ _ _
    rw [Cl_succ, hy]
    exact hown'
set_option maxRecDepth 100000 in
set_option maxHeartbeats 1000000 in
theorem nmul_n (B k m c n : Nat) (ao : Option Addr) (cap : Nat) (w : World) (hr : Hid (Row 87 .u32 w B (.slice ao k cap) k (Wd.wd W32 n))) (hk : k ≤ 100000) (hn : Hid (n < W32 ^ k)) (hm : m < 4294967296) (hc : c < 4294967296) :
    Calls Tryz.prog 57 #[.slice ao k cap, .int .u32 m, .int .u32 c] w fun e w' => ∃ v', e = .returned v' ∧ Nm w' w.heap.size v' (n * m + c) ∧ Below w.heap.size w w' := by
  obtain ⟨K, hK⟩ : ∃ K, k + 1 = K := ⟨_, rfl⟩
  have hKI : (k : Int) + 1 = (K : Int) := by omega
  obtain ⟨w1, hmk, hmr, hmb⟩ := make32 w 0 K (by omega) (by omega)
  have hrow0 : Hid (Row 87 .u32 w1 w.heap.size (.slice (some ⟨w.heap.size, 0, none⟩) 0 K) 0 (Wd.wd W32 (n * m + c))) := hmr.out.congr (fun j hj => by omega)
  have hmk' : (Instr.makeSlice 58 (.int .i64 0) (.int .i64 (K : Int))).run Tryz.prog w = .ok (.slice (some ⟨w.heap.size, 0, none⟩) 0 K) w1 := hmk
  clear hmr hmk
  go_enter Tryz.func57, Tryz.ntmps57
  go_wp2
  clear hmk' hKI
  go_loopw [7, 8, 19] (fun so sc si wr => ∃ i : Nat, i ≤ k ∧ si = .int .i64 i ∧ sc = .int .u64 (Wd.cm W32 n m c i : Nat) ∧ Hid (Row 87 .u32 wr w.heap.size so i (Wd.wd W32 (n * m + c))) ∧ Hid (Below w.heap.size w wr)) (fun _ _ si _ => k - (intOf si).toNat)
  case atStart => exact ⟨0, Nat.zero_le _, rfl, by rw [Wd.cm_zero], hrow0, hmb⟩
  case round =>
    clear hrow0 hmb
    obtain ⟨i, hi, rfl, rfl, hrow, hb⟩ := hrel
    have hcm : Wd.cm W32 n m c i < 4294967296 := Wd.cm_lt W32_0 hm hc i
    have hsz := hb.out.size
    by_cases hlt : i < k
    · have hlt' : (i : Int) < (k : Int) := by omega
      obtain ⟨g, rfl, hcells⟩ := Row.rd hr.out (by omega)
      have hcell := (hr.out.under hb.out).cell i hlt
      have hx := wd32 n i
      have h1 : Hid (Wd.cm W32 n m c (i + 1) = (Wd.wd W32 n i * m + Wd.cm W32 n m c i) / W32) := Wd.cm_succ W32_0 n m c i
      have h2 : Hid (Wd.wd W32 (n * m + c) i = (Wd.wd W32 n i * m + Wd.cm W32 n m c i) % W32) := Wd.cm_word W32_0 n m c i
      generalize Wd.wd W32 n i = x at hcell hx h1 h2
      generalize Wd.cm W32 n m c i = cc at hcm h1 h2 ⊢
      have hxm : x * m ≤ 18446744065119617025 := Nat.mul_le_mul (show x ≤ 4294967295 by omega) (show m ≤ 4294967295 by omega)
      obtain ⟨s, hs⟩ : ∃ s, s = x * m := ⟨_, rfl⟩
      rw [← hs] at hxm h1 h2
      have e1 : IntKind.u64.wrap ((x : Int) * (m : Int)) = (s : Int) := by rw [castMul, ← hs]; exact wrapId _ (by omega)
      have e2 : IntKind.u64.wrap ((cc : Int) + (s : Int)) = ((s + cc : Nat) : Int) := by rw [castAdd, Nat.add_comm]; exact wrapId _ (by omega)
      clear hcells hs
      obtain ⟨S, hS⟩ : ∃ S, S = s + cc := ⟨_, rfl⟩
      rw [← hS] at h1 h2 e2
      have hSl : S < 18446744073709551616 := by omega
      clear hS
      have e3 : IntKind.u32.wrap (S : Int) = ((S % 4294967296 : Nat) : Int) := by simp only [IntKind.wrap_u32]; omega
      go_wp2_with (at_builtin; refine app32 _ rfl _ _ rfl w.heap.size i (S % 4294967296) wr.heap.size (Wd.wd W32 (n * m + c)) _ rfl rfl (hrow.out.allocs _) (by simp) h2.out (by omega) (by simp; omega) ?_)
      intro v' w2 hr2 hb2
      have hr2H : Hid (Row 87 .u32 w2 w.heap.size v' (i + 1) (Wd.wd W32 (n * m + c))) := hr2
      have hb2H : Hid (Below w.heap.size w w2) := (hb.out.alloc hsz _).trans hb2
      have h1' : Hid (Wd.cm W32 n m c (i + 1) = S / 4294967296) := h1.out
      clear hr2 hb2 hb hrow h1 h2 e1 e2 e3
      go_wp2
      go_roundw
      case rel => exact ⟨i + 1, by omega, by go_num, by rw [h1'.out]; go_num, hr2H, hb2H⟩
      case measure => simp [intOf]; omega
    · have hlt' : decide ((i : Int) < (k : Int)) = false := decide_eq_false (by omega)
      have hik : i = k := by omega
      subst hik
      have htop : Hid (Wd.wd W32 (n * m + c) i = Wd.cm W32 n m c i) := by
        show (n * m + c) / W32 ^ i % W32 = _
        rw [← Wd.cm_end hn.out]; exact Nat.mod_eq_of_lt hcm
      have hlt2 : Hid (n * m + c < W32 ^ (i + 1)) := by
        have h1 := hn.out
        show _ < _
        rw [Nat.pow_succ]
        have h2 : (n + 1) * W32 ≤ W32 ^ i * W32 := Nat.mul_le_mul_right _ h1
        have h3 : n * m ≤ n * W32 := Nat.mul_le_mul_left _ (Nat.le_of_lt hm)
        have h4 : c < W32 := hc
        rw [Nat.add_mul, Nat.one_mul] at h2
        omega
      clear hn hr hK
      generalize Wd.cm W32 n m c i = cc at hcm htop ⊢
      have e3 : IntKind.u32.wrap (cc : Int) = (cc : Int) := by simp only [IntKind.wrap_u32]; omega
      go_wp2_with (first | (at_builtin; refine app32 _ rfl _ _ rfl w.heap.size i cc wr.heap.size (Wd.wd W32 (n * m + c)) _ rfl rfl (hrow.out.allocs _) (by simp) htop.out (by omega) (by simp; omega) ?_) | fail)
      intro v' w2 hr2 hb2
      have hr2H : Hid (Row 87 .u32 w2 w.heap.size v' (i + 1) (Wd.wd W32 (n * m + c))) := hr2
      have hb2H : Hid (Below w.heap.size w w2) := (hb.out.alloc hsz _).trans hb2
      clear hr2 hb2 hb hrow e3 htop
      go_wp2_with fail
      refine (ntrim_c w.heap.size (i + 1) (n * m + c) v' w2 hr2H.out hlt2.out (by omega)).mono ?_
      rintro e w' ⟨v3, rfl, hv3, rfl⟩
      have hv3H : Hid (Nm w2 w.heap.size v3 (n * m + c)) := hv3
      clear hv3
      go_wp2
      go_ret
      exact ⟨_, rfl, hv3H.out, hb2H.out⟩
theorem nmul_c (B m c n : Nat) (v : Value) (w : World) (hr : Nm w B v n) (hk : Wd.nw W32 n ≤ 100000) (hm : m < 4294967296) (hc : c < 4294967296) :
    Calls Tryz.prog 57 #[v, .int .u32 m, .int .u32 c] w fun e w' => ∃ v', e = .returned v' ∧ Nm w' w.heap.size v' (n * m + c) ∧ Below w.heap.size w w' := by
  obtain ⟨ao, cap, rfl⟩ := Row.slice hr
  exact nmul_n B _ m c n ao cap w hr hk (Wd.lt_pow_nw W32_2 n) hm hc
end Go.Proofs.YtmdnmhbfdceliaaGreatDoor
/-
  timbrenat: Compare, Size, digit.
-/
namespace Go.Proofs.YtmdnmhbfdceliaaGreatDoor
open Flo Go.RowKit
/-- -1, 0 or 1 -/
def sgnOf (m n : Nat) : Int := if m < n then -1 else if n < m then 1 else 0
set_option maxRecDepth 100000 in
set_option maxHeartbeats 1000000 in
theorem ncmp_ne (ao bo : Option Addr) (k l c d : Nat) (w : World) (h : ((k : Int) != (l : Int)) = true) :
    Calls Tryz.prog 104 #[.slice ao k c, .slice bo l d] w fun e w' => e = .returned (.int .i64 (if k < l then -1 else 1)) ∧ w = w' := by
  by_cases hl : k < l
  · have hl' : (k : Int) < (l : Int) := by omega
    rw [if_pos hl]
    go_enter Tryz.func104, Tryz.ntmps104
    go_wp2
    go_ret
    exact ⟨rfl, rfl⟩
  · have hl' : ¬ ((k : Int) < (l : Int)) := by omega
    rw [if_neg hl]
    go_enter Tryz.func104, Tryz.ntmps104
    go_wp2
    go_ret
    exact ⟨rfl, rfl⟩
set_option maxRecDepth 100000 in
set_option maxHeartbeats 1000000 in
theorem ncmp_n (ao bo : Option Addr) (k c d m n : Nat) (w : World) (hk : k ≤ 1000000) (hm : Hid (m < W32 ^ k)) (hn : Hid (n < W32 ^ k))
    (h1 : Hid (0 < k → ∃ g, ao = some ⟨g, 0, none⟩ ∧ ∀ i, i < k → w.cell? ⟨g, i, none⟩ = some (.int .u32 (Wd.wd W32 m i : Nat))))
    (h2 : Hid (0 < k → ∃ g, bo = some ⟨g, 0, none⟩ ∧ ∀ i, i < k → w.cell? ⟨g, i, none⟩ = some (.int .u32 (Wd.wd W32 n i : Nat)))) :
    Calls Tryz.prog 104 #[.slice ao k c, .slice bo k d] w fun e w' => e = .returned (.int .i64 (sgnOf m n)) ∧ ∃ q, w' = w.drewN q := by
  go_enter Tryz.func104, Tryz.ntmps104
  go_wp2
  go_loopw [5] (fun si wr => ∃ (i q : Nat), i ≤ k ∧ si = .int .i64 ((i : Int) - 1) ∧ wr = w.drewN q ∧ Hid (m / W32 ^ i = n / W32 ^ i)) (fun si _ => (intOf si + 1).toNat)
  case atStart => exact ⟨k, 0, Nat.le_refl _, rfl, rfl, by show m / W32 ^ k = n / W32 ^ k; rw [Nat.div_eq_of_lt hm.out, Nat.div_eq_of_lt hn.out]⟩
  case round =>
    obtain ⟨i, q, hi, rfl, rfl, hd⟩ := hrel
    by_cases h0 : i = 0
    · subst h0
      have hmn : Hid (m = n) := by have h := hd.out; rw [Nat.pow_zero, Nat.div_one, Nat.div_one] at h; exact h
      go_wp2
      go_ret
      refine ⟨ret_int ?_, _, rfl⟩
      rw [hmn.out]; unfold sgnOf; simp
    · obtain ⟨j, rfl⟩ : ∃ j, i = j + 1 := ⟨i - 1, by omega⟩
      obtain ⟨g1, rfl, hc1⟩ := h1.out (by omega)
      obtain ⟨g2, rfl, hc2⟩ := h2.out (by omega)
      have e1 := hc1 j (by omega)
      have e2 := hc2 j (by omega)
      clear hc1 hc2 h1 h2
      have hj : (j : Int) < (k : Int) := by omega
      have hj0 : (((j + 1 : Nat) : Int) - 1) = (j : Int) := by omega
      have hxl := wd32 m j
      have hyl := wd32 n j
      have hlt : Hid (Wd.wd W32 m j < Wd.wd W32 n j → m < n) := fun h => Wd.cmp_lt hd.out h
      have hgt : Hid (Wd.wd W32 n j < Wd.wd W32 m j → n < m) := fun h => Wd.cmp_lt hd.out.symm h
      have heq : Hid (Wd.wd W32 m j = Wd.wd W32 n j → m / W32 ^ j = n / W32 ^ j) := fun h => Wd.cmp_eq hd.out h
      generalize Wd.wd W32 m j = x at e1 hxl hlt hgt heq
      generalize Wd.wd W32 n j = y at e2 hyl hlt hgt heq
      rw [hj0]
      clear hd hj0
      rcases Nat.lt_trichotomy x y with hxy | hxy | hxy
      · have hxy' : (x : Int) < (y : Int) := by omega
        have hmn : Hid (m < n) := hlt.out hxy
        clear hlt hgt heq
        go_wp2_with fail
        go_quiet (fail)
        go_wp2
        go_ret
        refine ⟨ret_int ?_, _, by first | rw [World.drewN_drewN] | rfl⟩
        unfold sgnOf; rw [if_pos hmn.out]
      · subst hxy
        have hnew : Hid (m / W32 ^ j = n / W32 ^ j) := heq.out rfl
        clear hlt hgt heq
        go_wp2_with fail
        go_quiet (fail)
        go_wp2_with fail
        go_quiet (fail)
        go_wp2
        go_roundw
        case rel => exact ⟨j, _, by omega, by go_num, rfl, hnew⟩
        case measure => simp [intOf]
      · have hxy' : ¬ ((x : Int) < (y : Int)) := by omega
        have hxy2 : (y : Int) < (x : Int) := by omega
        have hmn : Hid (n < m) := hgt.out hxy
        clear hlt hgt heq
        go_wp2_with fail
        go_quiet (fail)
        go_wp2_with fail
        go_quiet (fail)
        go_wp2
        go_ret
        refine ⟨ret_int ?_, _, by first | rw [World.drewN_drewN, World.drewN_drewN] | rw [World.drewN_drewN]⟩
        have h9 := hmn.out
        unfold sgnOf; rw [if_neg (by omega), if_pos h9]
theorem ncmp_c (B C m n : Nat) (u v : Value) (w : World) (hu : Nm w B u m) (hv : Nm w C v n) (hk : Wd.nw W32 m ≤ 1000000) :
    Calls Tryz.prog 104 #[u, v] w fun e w' => e = .returned (.int .i64 (sgnOf m n)) ∧ ∃ q, w' = w.drewN q := by
  obtain ⟨ao, c, rfl⟩ := Row.slice hu
  obtain ⟨bo, d, rfl⟩ := Row.slice hv
  by_cases hl : Wd.nw W32 m = Wd.nw W32 n
  · have h1 := Wd.lt_pow_nw W32_2 m
    have h2 := Wd.lt_pow_nw W32_2 n
    unfold Nm at hu hv
    rw [← hl] at hv h2 ⊢
    exact ncmp_n ao bo _ c d m n w hk h1 h2 (Row.rd hu) (Row.rd hv)
  · refine (ncmp_ne ao bo _ _ c d w ?_).mono ?_
    · simp [bne]; omega
    · rintro e w' ⟨rfl, rfl⟩
      refine ⟨?_, 0, rfl⟩
      unfold sgnOf
      by_cases h : Wd.nw W32 m < Wd.nw W32 n
      · have hmn : m < n := by
          apply Nat.lt_of_not_le
          intro h'
          have := Wd.nw_mono W32_2 h'
          omega
        rw [if_pos h, if_pos hmn]
      · have hnm : n < m := by
          apply Nat.lt_of_not_le
          intro h'
          have := Wd.nw_mono W32_2 h'
          omega
        rw [if_neg h, if_neg (by omega), if_pos hnm]
theorem W32_pow (j : Nat) : W32 ^ j = 2 ^ (32 * j) := by rw [Nat.pow_mul]; rfl
theorem dig_word (n j s : Nat) (hs : s < 32) : Wd.wd W32 n j / 2 ^ s % 2 = n / 2 ^ (32 * j + s) % 2 := by
  unfold Wd.wd
  have e : W32 = 2 ^ s * 2 ^ (32 - s) := by rw [← Nat.pow_add, show s + (32 - s) = 32 by omega]; rfl
  conv => lhs; rw [W32_pow, e]
  rw [Nat.mod_mul_right_div_self, Nat.mod_mod_of_dvd _ (by exact ⟨2 ^ (31 - s), by rw [← Nat.pow_succ', show (31 - s).succ = 32 - s by omega]⟩), Nat.div_div_eq_div_mul, ← Nat.pow_add]
theorem and1_32 (x s : Nat) (hx : x < 4294967296) : bits .and .u32 ((x : Int) / 2 ^ s) 1 = ((x / 2 ^ s % 2 : Nat) : Int) := by
  have e : (x : Int) / 2 ^ s = ((x / 2 ^ s : Nat) : Int) := by simp
  rw [e, show (1 : Int) = ((1 : Nat) : Int) from rfl, bits_and_u32_nat _ _ (Nat.lt_of_le_of_lt (Nat.div_le_self _ _) hx) (by decide)]
  exact congrArg _ (Nat.and_two_pow_sub_one_eq_mod _ 1)
set_option maxRecDepth 100000 in
set_option maxHeartbeats 1000000 in
theorem ndigit_n (B n g cap k i j s : Nat) (w : World) (hr : Hid (Row 87 .u32 w B (.slice (some ⟨g, 0, none⟩) k cap) k (Wd.wd W32 n))) (hi : i ≤ 100000000) (hj : Hid (j = i / 32)) (hs : s = i % 32) (hjk : j < k) (hk : k ≤ 1000000) :
    Calls Tryz.prog 103 #[.slice (some ⟨g, 0, none⟩) k cap, .int .i64 i] w fun e w' => e = .returned (.int .u32 ((n / 2 ^ i % 2 : Nat) : Int)) ∧ w = w' := by
  have hc := hr.out.cell j hjk
  have hx := wd32 n j
  have hres : Hid (Wd.wd W32 n j / 2 ^ s % 2 = n / 2 ^ i % 2) := by
    show _ = _
    rw [dig_word n j s (by omega), show 32 * j + s = i by have := hj.out; omega]
  generalize Wd.wd W32 n j = x at hc hx hres
  have hand : Hid (bits .and .u32 ((x : Int) / 2 ^ s) 1 = ((x / 2 ^ s % 2 : Nat) : Int)) := and1_32 x s hx
  have e1 : wrap64 ((i : Int) / 32) = (j : Int) := by unfold wrap64; have := hj.out; omega
  have e2 : wrap64 ((i : Int) % 32) = (s : Int) := by unfold wrap64; omega
  have e3 : (i : Int) % 32 = (s : Int) := by omega
  have e4 : (i : Int) / 32 = (j : Int) := by have := hj.out; omega
  have hjk' : (j : Int) < (k : Int) := by omega
  have hs32 : s < 32 := by omega
  clear hs
  go_enter Tryz.func103, Tryz.ntmps103
  go_wp2
  go_ret
  exact ⟨by rw [hand.out, hres.out]; rfl, rfl⟩
theorem nw_pos' {n : Nat} (h : 0 < n) : 0 < Wd.nw W32 n := by rw [Wd.nw_pos W32_2 h]; omega
theorem bit_nw32 {n : Nat} : bitLen n ≤ 32 * Wd.nw W32 n := by
  apply bitLen_lt
  rw [← W32_pow]
  exact Wd.lt_pow_nw W32_2 n
theorem nw_bit32 {n k : Nat} (h : n < 2 ^ (32 * k)) : Wd.nw W32 n ≤ k := Wd.nw_le W32_2 (by rw [W32_pow]; exact h)
theorem ndigit_c (B n i : Nat) (v : Value) (w : World) (hr : Nm w B v n) (hk : Wd.nw W32 n ≤ 1000000) (hi : i < bitLen n) :
    Calls Tryz.prog 103 #[v, .int .i64 i] w fun e w' => e = .returned (.int .u32 ((n / 2 ^ i % 2 : Nat) : Int)) ∧ w = w' := by
  have h1 := bit_nw32 (n := n)
  rcases Row.cases hr with ⟨rfl, h0⟩ | ⟨g, cap, rfl, _⟩
  · omega
  · exact ndigit_n B n g cap _ i (i / 32) (i % 32) w hr (by omega) rfl rfl (by omega) hk
theorem bitLen_eq {x L : Nat} (h1 : 2 ^ (L - 1) ≤ x) (h2 : x < 2 ^ L) (h0 : 0 < L) : bitLen x = L := by
  have hx : 0 < x := Nat.lt_of_lt_of_le (Nat.pow_pos (by decide)) h1
  have a1 := bitLen_lo hx
  have a2 := bitLen_hi x
  have a3 := bitLen_pos hx
  have b1 : L - 1 < bitLen x := (Nat.pow_lt_pow_iff_right (by decide : 1 < 2)).1 (Nat.lt_of_le_of_lt h1 a2)
  have b2 : bitLen x - 1 < L := (Nat.pow_lt_pow_iff_right (by decide : 1 < 2)).1 (Nat.lt_of_le_of_lt a1 h2)
  omega
theorem bitLen_top32 {n : Nat} (h : 0 < n) : bitLen n = 32 * (Wd.nw W32 n - 1) + bitLen (Wd.wd W32 n (Wd.nw W32 n - 1)) := by
  have h1 := Wd.pow_le_of_nw W32_2 h
  have h2 := Wd.lt_pow_nw W32_2 n
  have h3 := Wd.nw_pos W32_2 h
  have e : Wd.wd W32 n (Wd.nw W32 n - 1) = n / 2 ^ (32 * (Wd.nw W32 n - 1)) := by
    unfold Wd.wd
    rw [Nat.mod_eq_of_lt, W32_pow]
    rw [Nat.div_lt_iff_lt_mul (Nat.pow_pos W32_0), ← Nat.pow_succ', show (Wd.nw W32 n - 1).succ = Wd.nw W32 n by omega]
    exact h2
  rw [e]
  apply bitLen_shift
  intro h4
  rw [← W32_pow] at h4
  rcases Nat.div_eq_zero_iff.1 h4 with h5 | h5
  · have := Nat.pow_pos (n := Wd.nw W32 n - 1) W32_0; omega
  · omega
set_option maxRecDepth 100000 in
set_option maxHeartbeats 1000000 in
theorem nsize_n (B n g cap k : Nat) (w : World) (K : Nat) (hK : (K : Int) - 1 = (k : Int)) (hr : Hid (Row 87 .u32 w B (.slice (some ⟨g, 0, none⟩) K cap) K (Wd.wd W32 n))) (hk : k ≤ 1000000) (h : Hid (bitLen n = 32 * k + bitLen (Wd.wd W32 n k))) (h0 : Wd.wd W32 n k ≠ 0) :
    Calls Tryz.prog 83 #[.slice (some ⟨g, 0, none⟩) K cap] w fun e w' => e = .returned (.int .i64 (bitLen n : Nat)) ∧ w = w' := by
  have hc := hr.out.cell k (by omega)
  have hx := wd32 n k
  generalize Wd.wd W32 n k = x at hc hx h h0
  generalize bitLen n = r at h
  have hKk : (k : Int) < (K : Int) := by omega
  have e1 : wrap64 (32 * (K : Int)) = 32 * (K : Int) := by unfold wrap64; omega
  have e2 : (32 * (K : Int) == 0) = false := beq_eq_false_iff_ne.2 (by omega)
  go_enter Tryz.func83, Tryz.ntmps83
  go_wp2
  go_loop [3, 4] (fun sn sw => ∃ t y : Nat, t ≤ 31 ∧ y < 4294967296 ∧ 0 < y ∧ sn = .int .i64 (32 * (K : Int) - (t : Int)) ∧ sw = .int .u32 y ∧ Hid (y = x * 2 ^ t)) (fun _ sw => 4294967296 - (intOf sw).toNat)
  case atStart => exact ⟨0, x, by omega, hx, by omega, by go_num, rfl, by show x = x * 2 ^ 0; omega⟩
  case round =>
    obtain ⟨t, y, ht, hy, hy0, rfl, rfl, hyx⟩ := hrel
    clear hr hc
    by_cases hlt : y < 2147483648
    · have hlt' : (y : Int) < 2147483648 := by omega
      have e3 : IntKind.u32.wrap ((y : Int) * 2) = ((y * 2 : Nat) : Int) := by simp only [IntKind.wrap_u32]; omega
      have ht2 : t + 1 ≤ 31 := by
        apply Nat.le_of_not_lt
        intro hc
        have h3 : t = 31 := by omega
        have h4 := hyx.out
        rw [h3] at h4
        omega
      have hnx : Hid (y * 2 = x * 2 ^ (t + 1)) := by show _ = _; rw [hyx.out, Nat.pow_succ, Nat.mul_assoc]
      clear hyx
      go_wp2
      go_round
      case rel => exact ⟨t + 1, y * 2, ht2, by omega, by omega, by go_num, rfl, hnx⟩
      case measure => simp [intOf]; omega
    · have hlt' : ¬ ((y : Int) < 2147483648) := by omega
      have hb : Hid (bitLen x = 32 - t) := by
        have h1 := hyx.out
        have h2 : 0 < 2 ^ t := Nat.pow_pos (by decide)
        have h3 : 2 ^ (32 - t - 1) * 2 ^ t = 2 ^ 31 := by rw [← Nat.pow_add]; congr 1; omega
        have h4 : 2 ^ (32 - t) * 2 ^ t = 2 ^ 32 := by rw [← Nat.pow_add]; congr 1; omega
        refine bitLen_eq ?_ ?_ (by omega)
        · apply Nat.le_of_mul_le_mul_right _ h2; rw [h3]; omega
        · apply Nat.lt_of_mul_lt_mul_right (a := 2 ^ t); rw [h4]; omega
      clear hyx
      go_wp2
      go_ret
      refine ⟨ret_int ?_, rfl⟩
      have h5 := h.out
      have h6 := hb.out
      omega
set_option maxRecDepth 100000 in
set_option maxHeartbeats 1000000 in
theorem nsize_c (B n : Nat) (v : Value) (w : World) (hr : Nm w B v n) (hk : Wd.nw W32 n ≤ 1000000) :
    Calls Tryz.prog 83 #[v] w fun e w' => e = .returned (.int .i64 (bitLen n : Nat)) ∧ w = w' := by
  by_cases h0 : n = 0
  · subst h0
    obtain ⟨ao, cap, rfl⟩ := Row.slice hr
    have hz : Wd.nw W32 0 = 0 := Wd.nw_zero _
    go_enter Tryz.func83, Tryz.ntmps83
    go_wp2
    go_ret
    exact ⟨ret_int (by decide), rfl⟩
  · have h2 := Wd.nw_pos W32_2 (show 0 < n by omega)
    have h3 := bitLen_top32 (show 0 < n by omega)
    have h4 := Wd.top_ne W32_2 (show 0 < n by omega)
    unfold Nm at hr
    generalize Wd.nw W32 n = k1 at *
    obtain ⟨k, rfl⟩ : ∃ k, k1 = k + 1 := ⟨k1 - 1, by omega⟩
    rcases Row.cases hr with ⟨rfl, h1⟩ | ⟨g, cap, rfl, _⟩
    · omega
    · exact nsize_n B n g cap k w (k + 1) (by omega) hr (by omega) h3 h4
end Go.Proofs.YtmdnmhbfdceliaaGreatDoor
