/-
  timbrenat: Decimal.
-/
import Derived.Test.YtmdnmhbfdceliaaGreatDoorQl
import Derived.Test.YtmdnmhbfdceliaaGreatDoorDgq
import Derived.Test.YtmdnmhbfdceliaaGreatDoorFlt
import Derived.Test.YtmdnmhbfdceliaaGreatDoorRr2
namespace Go.Proofs.YtmdnmhbfdceliaaGreatDoor
open Flo Go.RowKit
/-- one word of a number divided by d, from the top -/
theorem divw {d W n i : Nat} (hd : 0 < d) (hW : 0 < W) :
    (n / W ^ (i + 1) % d * W + Wd.wd W n i) / d = Wd.wd W (n / d) i ∧ (n / W ^ (i + 1) % d * W + Wd.wd W n i) % d = n / W ^ i % d := by
  have h1 := Wd.div_split (b := W) n i
  have h2 : Wd.wd W n i < W := Wd.wd_lt hW n i
  have h3 : n / d / W ^ i = n / W ^ i / d := by rw [Nat.div_div_eq_div_mul, Nat.div_div_eq_div_mul, Nat.mul_comm]
  have h8 : Wd.wd W (n / d) i = n / W ^ i / d % W := by unfold Wd.wd; rw [h3]
  rw [h8, h1]
  generalize Wd.wd W n i = x at *
  generalize n / W ^ (i + 1) = N at *
  have h4 := Nat.div_add_mod N d
  have h5 : N * W + x = (N % d * W + x) + d * (N / d * W) := by
    have : N * W = (d * (N / d) + N % d) * W := by rw [h4]
    rw [this, Nat.add_mul, Nat.mul_assoc]; omega
  have h6 : N % d * W + x < d * W := by
    have h7 : N % d + 1 ≤ d := Nat.mod_lt N hd
    have := Nat.mul_le_mul_right W h7
    rw [Nat.add_mul, Nat.one_mul] at this
    omega
  constructor
  · rw [h5, Nat.add_mul_div_left _ _ hd, Nat.add_mul_mod_self_right]
    refine (Nat.mod_eq_of_lt ?_).symm
    rw [Nat.div_lt_iff_lt_mul hd, Nat.mul_comm W]; exact h6
  · rw [h5, Nat.add_mul_mod_self_left]
/-- the digits of a number from the last, as bytes -/
def dgt (N j : Nat) : Nat := 48 + N / 10 ^ j % 10
theorem dgt_lt (N j : Nat) : dgt N j < 256 := by unfold dgt; omega
def dstr (N K : Nat) : List UInt8 := (Wd.tab K fun j => dgt N (K - 1 - j)).map UInt8.ofNat
theorem dstr_len (N K : Nat) : (dstr N K).length = K := by simp [dstr, Wd.tab_len]
theorem dstr_succ (N K : Nat) : dstr N (K + 1) = dstr (N / 10) K ++ [UInt8.ofNat (48 + N % 10)] := by
  unfold dstr
  rw [Wd.tab_succ, List.map_append, List.map_cons, List.map_nil]
  congr 1
  · congr 1
    refine Wd.tab_congr fun j hj => ?_
    unfold dgt
    rw [Nat.div_div_eq_div_mul, Nat.mul_comm 10, ← Nat.pow_succ, show K + 1 - 1 - j = (K - 1 - j) + 1 by omega]
  · unfold dgt
    rw [show K + 1 - 1 - K = 0 by omega, Nat.pow_zero, Nat.div_one]
theorem dstr_dd : ∀ (K N : Nat), 10 ^ K ≤ N → N < 10 ^ (K + 1) → dstr N (K + 1) = Lib.decDigits N := by
  intro K
  induction K with
  | zero =>
    intro N h1 h2
    rw [dstr_succ, Dg.dd_small (by omega), Nat.mod_eq_of_lt (by omega)]; rfl
  | succ K ih =>
    intro N h1 h2
    rw [Nat.pow_succ] at h1 h2
    have hp : 0 < 10 ^ K := Nat.pow_pos (by decide)
    rw [dstr_succ, Dg.dd_step (by rw [Nat.pow_succ] at h2; omega), ih (N / 10) (by omega) (by omega)]
theorem dstr_at (N K j : Nat) (h : j < (dstr N K).length) : ((dstr N K)[j].toNat : Int) = (dgt N (K - 1 - j) : Nat) := by
  have hi : j < K := by rw [dstr_len] at h; exact h
  have h1 : (dstr N K)[j]? = some (UInt8.ofNat (dgt N (K - 1 - j))) := by unfold dstr; rw [List.getElem?_map, Wd.tab_get _ hi]; rfl
  rw [List.getElem?_eq_getElem h] at h1
  have h2 : (dstr N K)[j] = UInt8.ofNat (dgt N (K - 1 - j)) := Option.some.inj h1
  exact (congrArg (fun x : UInt8 => ((x.toNat : Nat) : Int)) h2).trans (congrArg _ (by rw [UInt8.toNat_ofNat', Nat.mod_eq_of_lt (dgt_lt _ _)]))
theorem dstr_back (W : World) (B0 : Nat) (v : Value) (N K : Nat) (h : Row 5 .u8 W B0 v K (fun j => dgt N (K - 1 - j))) :
    (convert 44 9 v).run Tryz.prog W = .ok (.string (B (dstr N K))) W := by
  rcases h.cases with ⟨rfl, h1⟩ | ⟨g, cap, rfl, _⟩
  · subst h1; kernel_rfl
  · have hc := run_convert_bytes_back (P := Tryz.prog) W 44 9 5 ⟨g, 0, none⟩ cap (dstr N K) Tryz.underlying44 Tryz.underlying5 Tryz.underlying9 (fun j hj => by
      have hj16 : j < K := by rw [dstr_len] at hj; exact hj
      have e : (⟨g, 0, none⟩ : Addr).add j = ⟨g, j, none⟩ := by
        unfold Addr.add
        split
        · rename_i h; subst h; rfl
        · simp
      rw [e, h.cell j hj16, dstr_at N K j hj])
    rw [dstr_len] at hc
    exact hc
/-- the text of a number, without noughts ahead -/
def dtx (N : Nat) : List UInt8 := if N = 0 then [] else Lib.decDigits N
/-- so many digits were had -/
def Ndg (N K : Nat) : Prop := K = 0 ∨ 0 < N / 10 ^ (K - 1)
theorem dstr_dtx {N K : Nat} (h : Ndg N K) (h0 : N / 10 ^ K = 0) : dstr N K = dtx N := by
  have hp : 0 < 10 ^ K := Nat.pow_pos (by decide)
  have hlt : N < 10 ^ K := by
    rcases Nat.div_eq_zero_iff.1 h0 with h | h
    · omega
    · exact h
  unfold dtx
  rcases h with h | h
  · subst h
    rw [Nat.pow_zero] at hlt
    rw [if_pos (by omega)]; rfl
  · have h1 : 10 ^ (K - 1) ≤ N := by
      apply Nat.le_of_not_lt
      intro hc
      rw [Nat.div_eq_of_lt hc] at h; omega
    have h2 : 0 < 10 ^ (K - 1) := Nat.pow_pos (by decide)
    rw [if_neg (by omega)]
    cases K with
    | zero => rw [Nat.pow_zero] at hlt; simp at h1; omega
    | succ K => exact dstr_dd K N h1 hlt
theorem ndg_le {N K : Nat} (h : Ndg N K) : K ≤ 32 * Wd.nw W32 N + 1 := by
  rcases h with h | h
  · omega
  · have h1 : 10 ^ (K - 1) ≤ N := by
      apply Nat.le_of_not_lt
      intro hc
      rw [Nat.div_eq_of_lt hc] at h; omega
    have h2 := Wd.lt_pow_nw W32_2 N
    rw [W32_pow] at h2
    have h3 : 2 ^ (K - 1) ≤ 10 ^ (K - 1) := Nat.pow_le_pow_left (by decide) _
    have h4 : 2 ^ (K - 1) < 2 ^ (32 * Wd.nw W32 N) := by omega
    have := (Nat.pow_lt_pow_iff_right (by decide : 1 < 2)).1 h4
    omega
theorem mod_digit {A c : Nat} (hc : c < 9) : A % 1000000000 / 10 ^ c % 10 = A / 10 ^ c % 10 := by
  have e : 1000000000 = 10 ^ c * 10 ^ (9 - c) := by rw [← Nat.pow_add, show c + (9 - c) = 9 by omega]
  rw [e, Nat.mod_mul_right_div_self]
  exact Nat.mod_mod_of_dvd _ (by rw [show 9 - c = (8 - c) + 1 by omega, Nat.pow_succ]; exact Nat.dvd_mul_left _ _)
theorem low_zero {A c : Nat} (h1 : A % 1000000000 / 10 ^ c = 0) (h2 : A / 1000000000 = 0) : A / 10 ^ c = 0 := by
  have : A % 1000000000 = A := Nat.mod_eq_of_lt (by omega)
  rw [this] at h1; exact h1
theorem low_pos {A c : Nat} (hc : c ≤ 9) (h : 0 < A % 1000000000 / 10 ^ c ∨ 0 < A / 1000000000) : 0 < A / 10 ^ c := by
  have hp : 0 < 10 ^ c := Nat.pow_pos (by decide)
  rcases h with h | h
  · exact Nat.lt_of_lt_of_le h (Nat.div_le_div_right (Nat.mod_le _ _))
  · have h1 : 10 ^ c ≤ 10 ^ 9 := Nat.pow_le_pow_right (by decide) hc
    exact Nat.div_pos (by omega) hp
/-- turned round up to the place i from both ends -/
def rv (N K i j : Nat) : Nat := if j < i ∨ K ≤ j + i then dgt N (K - 1 - j) else dgt N j
theorem rv_step {N K i j : Nat} (h : 2 * i + 1 < K) (hj : j < K) : (if j = K - 1 - i then rv N K i i else if j = i then rv N K i (K - 1 - i) else rv N K i j) = rv N K (i + 1) j := by
  unfold rv
  by_cases h1 : j = K - 1 - i
  · rw [if_pos h1, if_neg (by omega), if_pos (by omega), h1, show K - 1 - (K - 1 - i) = i by omega]
  · rw [if_neg h1]
    by_cases h2 : j = i
    · rw [if_pos h2, if_neg (by omega), if_pos (by omega), h2]
    · rw [if_neg h2]
      by_cases h3 : j < i ∨ K ≤ j + i
      · rw [if_pos h3, if_pos (by omega)]
      · rw [if_neg h3, if_neg (by omega)]
theorem rv_end {N K i j : Nat} (h : K ≤ 2 * i + 1) (hj : j < K) : rv N K i j = dgt N (K - 1 - j) := by
  unfold rv
  by_cases h3 : j < i ∨ K ≤ j + i
  · rw [if_pos h3]
  · rw [if_neg h3, show K - 1 - j = j by omega]
/-- one byte more -/
theorem app8 {ops : Array Oper} {rest : List Oper} {o : Oper} {a : Act} {Q : Exit → Act → World → Prop} (w : World) (hgd : o.guard = none) (s x : Operand)
    (ho : o.op = .call { callee := .builtin .append, args := #[s, x], argTypes := #[44, 44] })
    (B k y g : Nat) (f : Nat → Nat) (v : Value) (hs : a.eval s = v) (hx : a.eval x = .slice (some ⟨g, 0, none⟩) 1 1) (hrow : Row 5 .u8 w B v k f)
    (hcell : w.cell? ⟨g, 0, none⟩ = some (.int .u8 (y : Int))) (hy : f k = y) (hk : k ≤ 1000000) (hB : B ≤ w.heap.size)
    (h : ∀ v' w', Row 5 .u8 w' B v' (k + 1) f → Inp w w' v v' → wpList Tryz.prog ops Q rest (a.put o.dst v') w') : wpList Tryz.prog ops Q (o :: rest) a w := by
  obtain ⟨i0, hi0, hz0, hz1, hz2⟩ := info_parts infoU8
  refine wpList_append_fr w hgd s x 44 ho B 5 i0 (.int .u8 0) 1 1 Tryz.underlying44 hi0 hz0 hz1 hz2 rfl (by decide) v k _ hs hrow ⟨g, 0, none⟩ 1 1 [.int .u8 (y : Int)] hx rfl ?_ ?_ ?_ ?_ hB ?_
  · intro j u hj
    match j, hj with
    | 0, hj => simp at hj; subst hj; simpa [Addr.add] using hcell
  · intro u hu; simp at hu; subst hu; rfl
  · unfold maxLen; omega
  · omega
  · intro v' w1 hown' hgrow how
    refine h v' w1 ?_ ⟨hgrow, how⟩
    show World.ownsRow _ _ _ _ _ _ _
    rw [Cl_succ, hy]
    exact hown'
set_option maxRecDepth 100000 in
set_option maxHeartbeats 4000000 in
theorem ndec_c (N : Nat) (v : Value) (w : World) (hr : Hid (Nm w 0 v N)) (hk : Hid (Wd.nw W32 N ≤ 10000)) :
    Calls Tryz.prog 33 #[v] w fun e w' => e = .returned (.string (B (dtx N))) ∧ Below w.heap.size w w' := by
  have hmade : Hid (Row 5 .u8 (w.alloc (.cells #[] 5)) w.heap.size (.slice (some ⟨w.heap.size, 0, none⟩) 0 0) 0 (dgt N)) := World.ownsRow_made w #[] 0 (Nat.le_refl _) (by decide) rfl
  go_enter Tryz.func33, Tryz.ntmps33
  go_wp2
  go_loopw [0, 3] (fun sa so wr => ∃ K : Nat, Hid (Ndg N K) ∧ Hid (Nm wr 0 sa (N / 10 ^ K)) ∧ Hid (Row 5 .u8 wr w.heap.size so K (dgt N)) ∧ Hid (Below w.heap.size w wr)) (fun sa so wr => match so with | .slice _ n _ => 400000 - n | _ => 0)
  case atStart => exact ⟨0, (.inl rfl : Ndg N 0), by rw [Nat.pow_zero, Nat.div_one]; exact hr.out.under ((Below.refl _ _).alloc (Nat.le_refl _) _), hmade, (Below.refl _ _).alloc (Nat.le_refl _) _⟩
  case round =>
    clear hmade hr
    obtain ⟨wo, rfl⟩ : ∃ wo, wo = wr := ⟨_, rfl⟩
    obtain ⟨K, hnd, ha, ho, hb⟩ := hrel
    have hK : K ≤ 320001 := by have := ndg_le hnd.out; have := hk.out; omega
    obtain ⟨A, hA⟩ : ∃ A, Hid (N / 10 ^ K = A) := ⟨_, rfl⟩
    rw [hA.out] at ha
    obtain ⟨ao, cap, rfl⟩ := nm_len ha.out
    obtain ⟨oo, ocap, rfl⟩ := Row.slice ho.out
    obtain ⟨k, hkk⟩ : ∃ k, Hid (Wd.nw W32 A = k) := ⟨_, rfl⟩
    have hkl : k ≤ 10000 := by rw [← hkk.out, ← hA.out]; exact Nat.le_trans (Wd.nw_mono W32_2 (Nat.div_le_self _ _)) hk.out
    have hrowA : Hid (Row 87 .u32 wo 0 (.slice ao k cap) k (Wd.wd W32 A)) := by rw [← hkk.out]; exact ha.out
    rw [hkk.out]
    clear ha
    by_cases h0 : k = 0
    · subst h0
      have hN0 : Hid (N / 10 ^ K = 0) := by
        have h := Wd.lt_pow_nw W32_2 A
        rw [hkk.out, Nat.pow_zero] at h
        have := hA.out
        show _ = _
        omega
      have hdx : Hid (dstr N K = dtx N) := dstr_dtx hnd.out hN0.out
      have hro : Hid (Row 5 .u8 wo w.heap.size (.slice oo K ocap) K (rv N K 0)) := ho.out.congr (fun j hj => by unfold rv; rw [if_neg (by omega)])
      clear ho hrowA hN0 hkk hA hnd
      go_wp2
      go_loopw [9, 10] (fun si sj wx => ∃ i : Nat, i ≤ K ∧ si = .int .i64 i ∧ sj = .int .i64 ((K : Int) - 1 - i) ∧ Hid (Row 5 .u8 wx w.heap.size (.slice oo K ocap) K (rv N K i)) ∧ Hid (Below w.heap.size w wx)) (fun si _ _ => 400000 - (intOf si).toNat)
      case atStart => exact ⟨0, Nat.zero_le _, rfl, by go_num, hro, hb⟩
      case round =>
        clear hro hb
        obtain ⟨i, hi, rfl, rfl, hrow, hbx⟩ := hrel
        by_cases hlt : 2 * i + 1 < K
        · have hlt' : (i : Int) < (K : Int) - 1 - (i : Int) := by omega
          obtain ⟨g, rfl, _⟩ := Row.rd hrow.out (by omega)
          obtain ⟨l, hl⟩ : ∃ l : Nat, (K : Int) - 1 - (i : Int) = (l : Int) := ⟨K - 1 - i, by omega⟩
          have hlN : Hid (l = K - 1 - i) := (by omega : l = K - 1 - i)
          have c1 := hrow.out.cell i (by omega)
          have c2 := hrow.out.cell l (by omega)
          have f1 := hrow.out.free i
          have f2 := hrow.out.free l
          obtain ⟨r1, q1⟩ := hrow.out.put i (rv N K i l)
          obtain ⟨r2, q2⟩ := r1.put l (rv N K i i)
          have f3 := r1.free l
          have hrN : Hid (Row 5 .u8 ((wr.setCell ⟨g, i, none⟩ (.int .u8 (rv N K i l : Nat))).setCell ⟨g, l, none⟩ (.int .u8 (rv N K i i : Nat))) w.heap.size (.slice (some ⟨g, 0, none⟩) K ocap) K (rv N K (i + 1))) := r2.congr (fun j hj => by
            have h := rv_step (N := N) hlt hj
            rw [← hlN.out] at h
            exact h)
          have hgB : ∀ k', (Value.slice (some ⟨g, 0, none⟩) K ocap).ownBlock = some k' → w.heap.size ≤ k' := fun k' h => (hrow.out.lt k' h).1
          have hbN : Hid (Below w.heap.size w ((wr.setCell ⟨g, i, none⟩ (.int .u8 (rv N K i l : Nat))).setCell ⟨g, l, none⟩ (.int .u8 (rv N K i i : Nat)))) := (hbx.out.grown q1 hbx.out.size hgB).grown q2 (Nat.le_trans hbx.out.size q1.size) hgB
          have hli : i ≠ l := by omega
          clear r1 r2 q1 q2 hgB hrow hbx
          generalize rv N K i l = y at *
          generalize rv N K i i = x at *
          rw [hl]
          rw [hl] at hlt'
          have hl1 : (l : Int) < (K : Int) := by omega
          have hi1 : (i : Int) < (K : Int) := by omega
          go_wp2
          go_region
          all_goals (
            go_wp2
            refine ⟨⟨i + 1, by omega, by go_num, by rw [show (K : Int) - 1 - ((i + 1 : Nat) : Int) = (l : Int) - 1 by omega]; try go_num, hrN.out.block (fun _ _ => rfl), hbN.out.drew⟩, ?_⟩
            simp [intOf]
            omega)
        · have hlt' : ¬ ((i : Int) < (K : Int) - 1 - (i : Int)) := by omega
          have hrow2 : Row 5 .u8 wr w.heap.size (.slice oo K ocap) K (fun j => dgt N (K - 1 - j)) := hrow.out.congr (fun j hj => rv_end (by omega) hj)
          have hcv := dstr_back wr _ _ N K hrow2
          clear hrow2 hrow
          rw [hdx.out] at hcv
          go_wp2
          go_ret
          exact ⟨rfl, hbx.out⟩
    · have h0' : (0 : Int) < (k : Int) := by omega
      obtain ⟨w1, hmk, hmr, hmb⟩ := make32 wo k k (Nat.le_refl _) (by omega)
      have hbr : Hid (Row 87 .u32 w1 wo.heap.size (.slice (some ⟨wo.heap.size, 0, none⟩) k k) k (fun j => if k ≤ j then Wd.wd W32 (A / 1000000000) j else 0)) := hmr.out.congr (fun j hj => by rw [if_neg (by omega)])
      have hA0 : Hid (A / W32 ^ k % 1000000000 = 0) := by
        have h := Wd.lt_pow_nw W32_2 A
        rw [hkk.out] at h
        show _ = _
        rw [Nat.div_eq_of_lt h]
      obtain ⟨ga, rfl, _⟩ := Row.rd hrowA.out (by omega)
      clear hmr
      go_wp2
      clear hmk
      go_loopw [4, 6] (fun sr si wx => ∃ i : Nat, i ≤ k ∧ si = .int .i64 ((i : Int) - 1) ∧ sr = .int .u64 ((A / W32 ^ i % 1000000000 : Nat) : Int) ∧ Hid (Row 87 .u32 wx wo.heap.size (.slice (some ⟨wo.heap.size, 0, none⟩) k k) k (fun j => if i ≤ j then Wd.wd W32 (A / 1000000000) j else 0)) ∧ Hid (Below wo.heap.size wo wx)) (fun _ si _ => (intOf si + 1).toNat)
      case atStart => exact ⟨k, Nat.le_refl _, rfl, by rw [hA0.out]; rfl, hbr, hmb⟩
      case round =>
        clear hbr hmb hA0
        obtain ⟨i, hi, rfl, rfl, hrow, hbx⟩ := hrel
        by_cases hiz : i = 0
        · subst hiz
          have hlt : Hid (A / 1000000000 < W32 ^ k) := by
            have h := Wd.lt_pow_nw W32_2 A
            rw [hkk.out] at h
            exact Nat.lt_of_le_of_lt (Nat.div_le_self _ _) h
          have hrow2 : Hid (Row 87 .u32 wr wo.heap.size (.slice (some ⟨wo.heap.size, 0, none⟩) k k) k (Wd.wd W32 (A / 1000000000))) := hrow.out.congr (fun j _ => by rw [if_pos (Nat.zero_le _)])
          rw [Nat.pow_zero, Nat.div_one]
          clear hrow
          go_wp2_with fail
          refine (ntrim_c wo.heap.size k (A / 1000000000) _ wr hrow2.out hlt.out (by omega)).mono ?_
          rintro e w2 ⟨va, rfl, hva, rfl⟩
          have hvaH : Hid (Nm wr wo.heap.size va (A / 1000000000)) := hva
          obtain ⟨a2, cap2, rfl⟩ := nm_len hva
          have hoH : Hid (Row 5 .u8 wr w.heap.size (.slice oo K ocap) K (dgt N)) := ho.out.under hbx.out
          have hbH : Hid (Below w.heap.size w wr) := hb.out.trans (hbx.out.mono hb.out.size)
          have hap : Hid (Apt (.slice a2 (Wd.nw W32 (A / 1000000000)) cap2) (.slice oo K ocap)) := fun b h1 h2 => by
            have g1 := (Row.lt hvaH.out b h1).1
            have g2 := (ho.out.lt b h2).2
            omega
          obtain ⟨kq, hkq⟩ : ∃ kq, Hid (Wd.nw W32 (A / 1000000000) = kq) := ⟨_, rfl⟩
          have hkql : kq ≤ 10000 := by rw [← hkq.out]; exact Nat.le_trans (Wd.nw_mono W32_2 (Nat.div_le_self _ _)) (by rw [hkk.out]; exact hkl)
          rw [hkq.out] at hvaH hap ⊢
          clear hva hrow2 hb ho hbx hrowA hlt
          obtain ⟨R, hR⟩ : ∃ R, Hid (A % 1000000000 = R) := ⟨_, rfl⟩
          have hRl : R < 1000000000 := by rw [← hR.out]; exact Nat.mod_lt _ (by decide)
          rw [hR.out]
          have hqz : Hid (kq = 0 ↔ A / 1000000000 = 0) := ⟨fun h => by
            apply Nat.eq_zero_of_not_pos
            intro hc
            have := nw_pos' hc
            rw [hkq.out] at this; omega, fun h => by rw [← hkq.out, h]; exact Wd.nw_zero _⟩
          have hA1 : Hid (∀ c, N / 10 ^ (K + c) = A / 10 ^ c) := fun c => by rw [← hA.out, Nat.div_div_eq_div_mul, ← Nat.pow_add]
          go_wp2
          go_loopw [3, 4, 8] (fun so sr sc wx => ∃ c : Nat, c ≤ 9 ∧ sc = .int .i64 c ∧ sr = .int .u64 ((R / 10 ^ c : Nat) : Int) ∧ Hid (Ndg N (K + c)) ∧ Hid (Nm wx wo.heap.size (.slice a2 kq cap2) (A / 1000000000)) ∧ Hid (Row 5 .u8 wx w.heap.size so (K + c) (dgt N)) ∧ Hid (Apt (.slice a2 kq cap2) so) ∧ Hid (Below w.heap.size w wx)) (fun _ _ sc _ => (9 - intOf sc).toNat)
          case atStart => exact ⟨0, by omega, rfl, by rw [Nat.pow_zero, Nat.div_one], hnd, hvaH, hoH, hap, hbH⟩
          case round =>
            clear hvaH hoH hap hbH
            obtain ⟨c, hc, rfl, rfl, hnd2, hva, hoo, hap, hbx⟩ := hrel
            have hA1c := hA1.out c
            have hrl : R / 10 ^ c ≤ R := Nat.div_le_self _ _
            have hlz : Hid (R / 10 ^ c = 0 → A / 1000000000 = 0 → A / 10 ^ c = 0) := fun h1 h2 => low_zero (by rw [hR.out]; exact h1) h2
            have hlp : Hid (0 < R / 10 ^ c ∨ 0 < A / 1000000000 → 0 < A / 10 ^ c) := fun h => low_pos hc (by rw [hR.out]; exact h)
            have hdg : Hid (c < 9 → dgt N (K + c) = 48 + R / 10 ^ c % 10) := fun h => by unfold dgt; rw [hA1c, ← mod_digit h, hR.out]
            have hnx : Hid (R / 10 ^ c / 10 = R / 10 ^ (c + 1)) := by show _ = _; rw [Nat.pow_succ, Nat.div_div_eq_div_mul]
            obtain ⟨r, hr⟩ : ∃ r, Hid (R / 10 ^ c = r) := ⟨_, rfl⟩
            rw [hr.out] at hrl hlz hlp hdg hnx ⊢
            clear hA1c
            by_cases hgo : c < 9 ∧ (0 < r ∨ 0 < kq)
            · obtain ⟨hc9, hrk⟩ := hgo
              have hdg' := hdg.out hc9
              have hnd3 : Hid (Ndg N (K + (c + 1))) := .inr (by
                rw [show K + (c + 1) - 1 = K + c by omega, hA1.out c]
                refine hlp.out ?_
                rcases hrk with h | h
                · exact .inl h
                · right
                  apply Nat.pos_of_ne_zero
                  intro h2
                  have := hqz.out.2 h2; omega)
              have hc9' : (c : Int) < 9 := by omega
              have hy : IntKind.u64.wrap (48 + ((r % 10 : Nat) : Int)) = ((48 + r % 10 : Nat) : Int) := by simp only [IntKind.wrap_u64]; omega
              have hdH : Hid (dgt N (K + c) = 48 + r % 10) := hdg'
              clear hlz hlp hdg hdg' hnd2
              have key : Hid (∀ (ob : Obj) (v' : Value) (w2 : World), Row 5 .u8 w2 w.heap.size v' (K + c + 1) (dgt N) → Inp (wr.alloc ob) w2 u3 v' → (Hid (Nm w2 wo.heap.size (.slice a2 kq cap2) (A / 1000000000)) ∧ Hid (Row 5 .u8 w2 w.heap.size v' (K + (c + 1)) (dgt N)) ∧ Hid (Apt (.slice a2 kq cap2) v') ∧ Hid (Below w.heap.size w w2))) := fun ob v' w2 h1 h2 => by
                have hv1 := Row.allocs hva.out ob
                refine ⟨Row.other hv1 h2 hap.out, h1, h2.apt hap.out (fun b hb => (Row.lt hv1 b hb).2), ?_⟩
                exact h2.below (hbx.out.alloc hbx.out.size _) (by have := hbx.out.size; simp; omega) (fun b hb => (hoo.out.lt b hb).1)
              by_cases hr0 : 0 < r
              · have hr0' : (0 : Int) < (r : Int) := by omega
                go_wp2_with (at_builtin; refine app8 _ rfl _ _ rfl w.heap.size (K + c) (48 + r % 10) wr.heap.size (dgt N) _ rfl rfl (hoo.out.allocs _) (by simp) hdH.out (by omega) (by have := hbx.out.size; simp; omega) ?_)
                intro v' w2 h1 h2
                obtain ⟨g1, g2, g3, g4⟩ := key.out _ v' w2 h1 h2
                clear h1 h2 key hva hoo hap hbx hdH
                go_wp2
                go_roundw
                case rel => exact ⟨c + 1, by omega, by go_num, by rw [← hnx.out]; go_num, hnd3, g1, g2, g3, g4⟩
                case measure => simp [intOf]; omega
              · have hr0' : r = 0 := by omega
                subst hr0'
                have hq0 : (0 : Int) < (kq : Int) := by omega
                go_wp2_with (at_builtin; refine app8 _ rfl _ _ rfl w.heap.size (K + c) (48 + 0 % 10) wr.heap.size (dgt N) _ rfl rfl (hoo.out.allocs _) (by simp) hdH.out (by omega) (by have := hbx.out.size; simp; omega) ?_)
                intro v' w2 h1 h2
                obtain ⟨g1, g2, g3, g4⟩ := key.out _ v' w2 h1 h2
                clear h1 h2 key hva hoo hap hbx hdH
                go_wp2
                go_roundw
                case rel => exact ⟨c + 1, by omega, by go_num, by rw [← hnx.out]; go_num, hnd3, g1, g2, g3, g4⟩
                case measure => simp [intOf]; omega
            · obtain ⟨oo2, cap3, rfl⟩ := Row.slice hoo.out
              have hva2 : Hid (Nm wr 0 (.slice a2 kq cap2) (N / 10 ^ (K + c))) := by
                have h : N / 10 ^ (K + c) = A / 1000000000 := by
                  rw [hA1.out c]
                  by_cases h9 : c = 9
                  · rw [h9]
                  · have hr0 : r = 0 := by omega
                    have hq0 : A / 1000000000 = 0 := hqz.out.1 (by omega)
                    rw [hlz.out hr0 hq0, hq0]
                rw [h]; exact hva.out.mono (Nat.zero_le _)
              have hcp : 0 < c := by
                apply Nat.pos_of_ne_zero
                intro h
                subst h
                have hr0 : r = 0 := by omega
                have hq0 : A / 1000000000 = 0 := hqz.out.1 (by omega)
                have h1 := hlz.out hr0 hq0
                rw [Nat.pow_zero, Nat.div_one] at h1
                subst h1
                exact h0 (by rw [← hkk.out]; exact Wd.nw_zero _)
              clear hva hlz hlp hdg hnx hr hap
              by_cases h9 : c = 9
              · subst h9
                go_wp2
                exact ⟨⟨_, hnd2, hva2, hoo, hbx⟩, by show 400000 - (K + 9) < 400000 - K; omega⟩
              · have hr0 : r = 0 := by omega
                have hq0 : kq = 0 := by omega
                have hc9' : (c : Int) < 9 := by omega
                subst hr0 hq0
                go_wp2
                exact ⟨⟨_, hnd2, hva2, hoo, hbx⟩, by show 400000 - (K + c) < 400000 - K; omega⟩
        · obtain ⟨j, rfl⟩ : ∃ j, i = j + 1 := ⟨i - 1, by omega⟩
          have hcell := (hrowA.out.under hbx.out).cell j (by omega)
          have hfree := hrow.out.free j
          have hfc := hrow.out.cell j (by omega)
          obtain ⟨d1, d2⟩ := divw (d := 1000000000) (W := W32) (n := A) (i := j) (by decide) W32_0
          have hw1 := wd32 A j
          have hw2 := wd32 (A / 1000000000) j
          have hm1 : A / W32 ^ (j + 1) % 1000000000 < 1000000000 := Nat.mod_lt _ (by decide)
          obtain ⟨hput, hgr⟩ := hrow.out.put j (Wd.wd W32 (A / 1000000000) j)
          have hputH : Hid (Row 87 .u32 (wr.setCell ⟨wo.heap.size, j, none⟩ (.int .u32 (Wd.wd W32 (A / 1000000000) j : Nat))) wo.heap.size (.slice (some ⟨wo.heap.size, 0, none⟩) k k) k (fun i => if j ≤ i then Wd.wd W32 (A / 1000000000) i else 0)) := hput.congr (fun i hi => by
            by_cases e : i = j
            · rw [if_pos e, if_pos (by omega), e]
            · rw [if_neg e]
              by_cases e2 : j ≤ i
              · rw [if_pos (by omega), if_pos e2]
              · rw [if_neg (by omega), if_neg e2])
          have hbH : Hid (Below wo.heap.size wo (wr.setCell ⟨wo.heap.size, j, none⟩ (.int .u32 (Wd.wd W32 (A / 1000000000) j : Nat)))) := hbx.out.grown hgr hbx.out.size (fun k' hk' => by cases hk'; exact Nat.le_refl _)
          have hsh : IntKind.u64.wrap (((A / W32 ^ (j + 1) % 1000000000 : Nat) : Int) * 4294967296) = ((A / W32 ^ (j + 1) % 1000000000 * 4294967296 : Nat) : Int) := by simp only [IntKind.wrap_u64]; omega
          have hor : bits .or .u64 (((A / W32 ^ (j + 1) % 1000000000 : Nat) : Int) * 4294967296) (Wd.wd W32 A j : Nat) = ((A / W32 ^ (j + 1) % 1000000000 * 4294967296 + Wd.wd W32 A j : Nat) : Int) := by
            rw [show (((A / W32 ^ (j + 1) % 1000000000 : Nat) : Int) * 4294967296) = ((A / W32 ^ (j + 1) % 1000000000 * 4294967296 : Nat) : Int) by omega]
            rw [bits_or_u64_nat _ _ (by omega) (by omega), Nat.mul_comm, show (4294967296 : Nat) = 2 ^ 32 from rfl, ← Nat.two_pow_add_eq_or_of_lt hw1]
          clear hput hgr hrow hbx
          have d1' : Hid ((A / W32 ^ (j + 1) % 1000000000 * 4294967296 + Wd.wd W32 A j) / 1000000000 = Wd.wd W32 (A / 1000000000) j) := d1
          have d2' : Hid ((A / W32 ^ (j + 1) % 1000000000 * 4294967296 + Wd.wd W32 A j) % 1000000000 = A / W32 ^ j % 1000000000) := d2
          clear d1 d2
          obtain ⟨S, hS⟩ : ∃ S, A / W32 ^ (j + 1) % 1000000000 * 4294967296 + Wd.wd W32 A j = S := ⟨_, rfl⟩
          have hSl : S < 18446744073709551616 := by omega
          rw [hS] at hor d1' d2'
          clear hS
          generalize Wd.wd W32 (A / 1000000000) j = q at *
          generalize Wd.wd W32 A j = x at *
          generalize A / W32 ^ (j + 1) % 1000000000 = r at *
          have e1 : IntKind.u64.wrap (((S / 1000000000 : Nat) : Int)) = ((S / 1000000000 : Nat) : Int) := wrapId _ (by omega)
          go_wp2
          go_roundw
          case rel =>
            refine ⟨j, by omega, rfl, ?_, ?_, ?_⟩
            · rw [← d2'.out]; go_num
            · rw [show ((S : Int) / 1000000000 % 4294967296) = (q : Int) by have := d1'.out; omega]; exact hputH
            · rw [show ((S : Int) / 1000000000 % 4294967296) = (q : Int) by have := d1'.out; omega]; exact hbH
          case measure => simp [intOf]
end Go.Proofs.YtmdnmhbfdceliaaGreatDoor
