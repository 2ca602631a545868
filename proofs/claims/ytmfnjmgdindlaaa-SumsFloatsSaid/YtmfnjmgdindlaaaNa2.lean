/-
  timbrenat: rows that are made and appended to; MulAdd.
-/
import Derived.Test.YtmfnjmgdindlaaaNa1
import Derived.Laws.MakeOwn
import Derived.Test.YtmfnjmgdindlaaaMod
import Derived.Test.YtmfnjmgdindlaaaNoe
namespace Go.Proofs.Ytmfnjmgdindlaaa
open Flo Go.RowKit
theorem make32 (w : World) (l c : Nat) (hl : l ≤ c) (hc : c ≤ 100000000) :
    ∃ w', (Instr.makeSlice 47 (.int .i64 (l : Int)) (.int .i64 (c : Int))).run Try.prog w = .ok (.slice (some ⟨w.heap.size, 0, none⟩) l c) w' ∧
      Hid (Row 64 .u32 w' w.heap.size (.slice (some ⟨w.heap.size, 0, none⟩) l c) l (fun _ => 0)) ∧ Hid (Below w.heap.size w w') := by
  obtain ⟨i0, hi0, hz0, hz1, hz2⟩ := info_parts infoU32
  have h := run_make (P := Try.prog) w 47 64 i0 (.int .u32 0) Try.underlying47 hi0 hz0 .i64 .i64 l c (by omega) (by omega) (by rw [hz2]; omega) (by omega)
  simp only [Int.toNat_natCast, hz1, Nat.mul_one] at h
  refine ⟨_, h, ?_, (Below.refl _ _).alloc (Nat.le_refl _) _⟩
  refine ⟨by rw [Cl_len, Nat.mul_one], .inr ⟨_, c, _, rfl, Nat.le_refl _, heap_alloc_new w _, hl, by unfold maxLen; omega, by rw [size_madeCells, Nat.mul_one], ?_⟩⟩
  have e : (Value.int .u32 0).cells = #[.int .u32 0] := rfl
  rw [e, toList_madeCells_one, Nat.mul_one]
  apply List.ext_getElem?
  intro j
  by_cases hj : j < l
  · rw [Cl_get .u32 _ hj]
    rw [List.getElem?_take, if_pos hj, List.getElem?_replicate, if_pos (by omega)]; rfl
  · rw [List.getElem?_eq_none (by simp; omega), List.getElem?_eq_none (by rw [Cl_len]; omega)]
/-- one word more -/
theorem app32 {ops : Array Oper} {rest : List Oper} {o : Oper} {a : Act} {Q : Exit → Act → World → Prop} (w : World) (hgd : o.guard = none) (s x : Operand)
    (ho : o.op = .call { callee := .builtin .append, args := #[s, x], argTypes := #[47, 47] })
    (B k y g : Nat) (f : Nat → Nat) (v : Value) (hs : a.eval s = v) (hx : a.eval x = .slice (some ⟨g, 0, none⟩) 1 1) (hrow : Row 64 .u32 w B v k f)
    (hcell : w.cell? ⟨g, 0, none⟩ = some (.int .u32 (y : Int))) (hy : f k = y) (hk : k ≤ 1000000) (hB : B ≤ w.heap.size)
    (h : ∀ v' w', Row 64 .u32 w' B v' (k + 1) f → Below B w w' → wpList Try.prog ops Q rest (a.put o.dst v') w') : wpList Try.prog ops Q (o :: rest) a w := by
  obtain ⟨i0, hi0, hz0, hz1, hz2⟩ := info_parts infoU32
  refine wpList_append_fr w hgd s x 47 ho B 64 i0 (.int .u32 0) 1 4 Try.underlying47 hi0 hz0 hz1 hz2 rfl (by decide) v k _ hs hrow ⟨g, 0, none⟩ 1 1 [.int .u32 (y : Int)] hx rfl ?_ ?_ ?_ ?_ hB ?_
  · intro j u hj
    match j, hj with
    | 0, hj => simp at hj; subst hj; simpa [Addr.add] using hcell
  · intro u hu; simp at hu; subst hu; rfl
  · unfold maxLen; omega
  · omega
  · intro v' w1 hown' hgrow _
    refine h v' w1 ?_ ((Below.refl B w).grown hgrow hB (fun k' hk' => (hrow.lt k' hk').1))
    show World.ownsRow _ _ _ _ _ _ _
    rw [Cl_succ, hy]
    exact hown'
set_option maxRecDepth 100000 in
set_option maxHeartbeats 1000000 in
theorem nmul_n (B k m c n : Nat) (ao : Option Addr) (cap : Nat) (w : World) (hr : Hid (Row 64 .u32 w B (.slice ao k cap) k (Wd.wd W32 n))) (hk : k ≤ 100000) (hn : Hid (n < W32 ^ k)) (hm : m < 4294967296) (hc : c < 4294967296) :
    Calls Try.prog 67 #[.slice ao k cap, .int .u32 m, .int .u32 c] w fun e w' => ∃ v', e = .returned v' ∧ Nm w' w.heap.size v' (n * m + c) ∧ Below w.heap.size w w' := by
  obtain ⟨K, hK⟩ : ∃ K, k + 1 = K := ⟨_, rfl⟩
  have hKI : (k : Int) + 1 = (K : Int) := by omega
  obtain ⟨w1, hmk, hmr, hmb⟩ := make32 w 0 K (by omega) (by omega)
  have hrow0 : Hid (Row 64 .u32 w1 w.heap.size (.slice (some ⟨w.heap.size, 0, none⟩) 0 K) 0 (Wd.wd W32 (n * m + c))) := hmr.out.congr (fun j hj => by omega)
  have hmk' : (Instr.makeSlice 47 (.int .i64 0) (.int .i64 (K : Int))).run Try.prog w = .ok (.slice (some ⟨w.heap.size, 0, none⟩) 0 K) w1 := hmk
  clear hmr hmk
  go_enter Try.func67, Try.ntmps67
  go_wp2
  clear hmk' hKI
  go_loopw [7, 8, 19] (fun so sc si wr => ∃ i : Nat, i ≤ k ∧ si = .int .i64 i ∧ sc = .int .u64 (Wd.cm W32 n m c i : Nat) ∧ Hid (Row 64 .u32 wr w.heap.size so i (Wd.wd W32 (n * m + c))) ∧ Hid (Below w.heap.size w wr)) (fun _ _ si _ => k - (intOf si).toNat)
  case atStart => exact ⟨0, Nat.zero_le _, rfl, by rw [Wd.cm_zero], hrow0, hmb⟩
  case round =>
    clear hrow0 hmb
    obtain ⟨i, hi, rfl, rfl, hrow, hb⟩ := hrel
    have hcm : Wd.cm W32 n m c i < 4294967296 := Wd.cm_lt W32_0 hm hc i
    have hsz := hb.out.size
    by_cases hlt : i < k
    · have hlt' : (i : Int) < (k : Int) := by omega
      obtain ⟨g, rfl, hcells⟩ := Row.rd hr.out (by omega)
      have hcell := (hr.out.under hb.out).cell i hlt
      have hx := wd32 n i
      have h1 : Hid (Wd.cm W32 n m c (i + 1) = (Wd.wd W32 n i * m + Wd.cm W32 n m c i) / W32) := Wd.cm_succ W32_0 n m c i
      have h2 : Hid (Wd.wd W32 (n * m + c) i = (Wd.wd W32 n i * m + Wd.cm W32 n m c i) % W32) := Wd.cm_word W32_0 n m c i
      generalize Wd.wd W32 n i = x at hcell hx h1 h2
      generalize Wd.cm W32 n m c i = cc at hcm h1 h2 ⊢
      have hxm : x * m ≤ 18446744065119617025 := Nat.mul_le_mul (show x ≤ 4294967295 by omega) (show m ≤ 4294967295 by omega)
      obtain ⟨s, hs⟩ : ∃ s, s = x * m := ⟨_, rfl⟩
      rw [← hs] at hxm h1 h2
      have e1 : IntKind.u64.wrap ((x : Int) * (m : Int)) = (s : Int) := by rw [castMul, ← hs]; exact wrapId _ (by omega)
      have e2 : IntKind.u64.wrap ((cc : Int) + (s : Int)) = ((s + cc : Nat) : Int) := by rw [castAdd, Nat.add_comm]; exact wrapId _ (by omega)
      clear hcells hs
      obtain ⟨S, hS⟩ : ∃ S, S = s + cc := ⟨_, rfl⟩
      rw [← hS] at h1 h2 e2
      have hSl : S < 18446744073709551616 := by omega
      clear hS
      have e3 : IntKind.u32.wrap (S : Int) = ((S % 4294967296 : Nat) : Int) := by simp only [IntKind.wrap_u32]; omega
      go_wp2_with (at_builtin; refine app32 _ rfl _ _ rfl w.heap.size i (S % 4294967296) wr.heap.size (Wd.wd W32 (n * m + c)) _ rfl rfl (hrow.out.allocs _) (by simp) h2.out (by omega) (by simp; omega) ?_)
      intro v' w2 hr2 hb2
      have hr2H : Hid (Row 64 .u32 w2 w.heap.size v' (i + 1) (Wd.wd W32 (n * m + c))) := hr2
      have hb2H : Hid (Below w.heap.size w w2) := (hb.out.alloc hsz _).trans hb2
      have h1' : Hid (Wd.cm W32 n m c (i + 1) = S / 4294967296) := h1.out
      clear hr2 hb2 hb hrow h1 h2 e1 e2 e3
      go_wp2
      go_roundw
      case rel => exact ⟨i + 1, by omega, by go_num, by rw [h1'.out]; go_num, hr2H, hb2H⟩
      case measure => simp [intOf]; omega
    · have hlt' : decide ((i : Int) < (k : Int)) = false := decide_eq_false (by omega)
      have hik : i = k := by omega
      subst hik
      have htop : Hid (Wd.wd W32 (n * m + c) i = Wd.cm W32 n m c i) := by
        show (n * m + c) / W32 ^ i % W32 = _
        rw [← Wd.cm_end hn.out]; exact Nat.mod_eq_of_lt hcm
      have hlt2 : Hid (n * m + c < W32 ^ (i + 1)) := by
        have h1 := hn.out
        show _ < _
        rw [Nat.pow_succ]
        have h2 : (n + 1) * W32 ≤ W32 ^ i * W32 := Nat.mul_le_mul_right _ h1
        have h3 : n * m ≤ n * W32 := Nat.mul_le_mul_left _ (Nat.le_of_lt hm)
        have h4 : c < W32 := hc
        rw [Nat.add_mul, Nat.one_mul] at h2
        omega
      clear hn hr hK
      generalize Wd.cm W32 n m c i = cc at hcm htop ⊢
      have e3 : IntKind.u32.wrap (cc : Int) = (cc : Int) := by simp only [IntKind.wrap_u32]; omega
      go_wp2_with (first | (at_builtin; refine app32 _ rfl _ _ rfl w.heap.size i cc wr.heap.size (Wd.wd W32 (n * m + c)) _ rfl rfl (hrow.out.allocs _) (by simp) htop.out (by omega) (by simp; omega) ?_) | fail)
      intro v' w2 hr2 hb2
      have hr2H : Hid (Row 64 .u32 w2 w.heap.size v' (i + 1) (Wd.wd W32 (n * m + c))) := hr2
      have hb2H : Hid (Below w.heap.size w w2) := (hb.out.alloc hsz _).trans hb2
      clear hr2 hb2 hb hrow e3 htop
      go_wp2_with fail
      refine (ntrim_c w.heap.size (i + 1) (n * m + c) v' w2 hr2H.out hlt2.out (by omega)).mono ?_
      rintro e w' ⟨v3, rfl, hv3, rfl⟩
      have hv3H : Hid (Nm w2 w.heap.size v3 (n * m + c)) := hv3
      clear hv3
      go_wp2
      go_ret
      exact ⟨_, rfl, hv3H.out, hb2H.out⟩
theorem nmul_c (B m c n : Nat) (v : Value) (w : World) (hr : Nm w B v n) (hk : Wd.nw W32 n ≤ 100000) (hm : m < 4294967296) (hc : c < 4294967296) :
    Calls Try.prog 67 #[v, .int .u32 m, .int .u32 c] w fun e w' => ∃ v', e = .returned v' ∧ Nm w' w.heap.size v' (n * m + c) ∧ Below w.heap.size w w' := by
  obtain ⟨ao, cap, rfl⟩ := Row.slice hr
  exact nmul_n B _ m c n ao cap w hr hk (Wd.lt_pow_nw W32_2 n) hm hc
end Go.Proofs.Ytmfnjmgdindlaaa
