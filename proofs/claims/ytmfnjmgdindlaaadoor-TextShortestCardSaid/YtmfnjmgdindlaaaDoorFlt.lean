/-
  Float: sixteen digits.
-/
import Derived.Test.YtmfnjmgdindlaaaDoorQd
import Derived.Test.YtmfnjmgdindlaaaDoorQg
import Derived.Test.YtmfnjmgdindlaaaDoorQc
import Derived.Laws.IdiomStrings
namespace Go.Proofs.YtmfnjmgdindlaaaDoor
open Flo Go.RowKit
theorem infoU8 : (Tryd.prog.info? 5).map (fun i => (i.zero, i.size, i.bytes)) = some (some (.int .u8 0), 1, 1) := by kernel_rfl
/-- a digit's sign -/
def hexd (d : Nat) : Nat := if d < 10 then 48 + d else 87 + d
/-- the digit of place i (from the left) of b -/
def hxp (b i : Nat) : Nat := hexd (b / 16 ^ (15 - i) % 16)
theorem hex_at : ∀ (d : Nat) (h : d < 16), ((⟨#[48, 49, 50, 51, 52, 53, 54, 55, 56, 57, 97, 98, 99, 100, 101, 102]⟩ : ByteArray)[d]'h).toNat = hexd d := by decide
theorem hexd_lt {d : Nat} (h : d < 16) : hexd d < 256 := by unfold hexd; split <;> omega
theorem and15 (b s : Nat) (hb : b < 18446744073709551616) : bits .and .u64 ((b : Int) / 2 ^ s) 15 = ((b / 2 ^ s % 16 : Nat) : Int) := by
  have e : (b : Int) / 2 ^ s = ((b / 2 ^ s : Nat) : Int) := by simp
  rw [e, show (15 : Int) = ((15 : Nat) : Int) from rfl, bits_and_u64_nat _ _ (Nat.lt_of_le_of_lt (Nat.div_le_self _ _) hb) (by decide)]
  exact congrArg _ (Nat.and_two_pow_sub_one_eq_mod _ 4)
set_option maxRecDepth 100000 in
set_option maxHeartbeats 400000 in
theorem appendFloat_c (n : Nat) (w : World) (h : Hid (n < 18446744073709551616)) :
    Calls Tryd.prog 22 #[.slice none 0 0, .float .f64 n] w fun e w' => ∃ v, e = .returned v ∧ Row 5 .u8 w' w.heap.size v 16 (hxp (bt n)) ∧ Below w.heap.size w w' := by
  obtain ⟨i0, hi0, hz0, hz1, hz2⟩ := info_parts infoU8
  have hbt : Hid (Calls Tryd.prog 15 #[.float .f64 n] w fun e w' => e = .returned (.int .u64 (bt n : Nat)) ∧ w = w') := bits_c n w h.out
  have hbl : Hid (bt n < 18446744073709551616) := bt_lt h.out
  generalize bt n = b at hbt hbl
  go_enter Tryd.func22, Tryd.ntmps22
  go_wp2_with fail
  refine hbt.out.mono ?_
  rintro e w' ⟨rfl, rfl⟩
  go_wp2_with fail
  clear hbt
  go_loopw [0, 6] (fun so si wr => ∃ i : Nat, i ≤ 16 ∧ si = .int .i64 (60 - 4 * (i : Int)) ∧ Hid (Row 5 .u8 wr w.heap.size so i (hxp b)) ∧ Hid (Below w.heap.size w wr)) (fun _ si _ => (intOf si + 4).toNat)
  case atStart => exact ⟨0, by omega, rfl, Row.nil _ _ _ _ _, Below.refl _ _⟩
  case round =>
    obtain ⟨i, hi, rfl, hrow, hbl2⟩ := hrel
    have hsz := hbl2.out.size
    by_cases h16 : i = 16
    · subst h16
      go_wp2
      go_ret
      exact ⟨_, rfl, hrow.out, hbl2.out⟩
    · obtain ⟨s, hs⟩ : ∃ s : Nat, s = 60 - 4 * i := ⟨_, rfl⟩
      have hsI : (60 : Int) - 4 * (i : Int) = (s : Int) := by omega
      have hsl : s ≤ 60 := by omega
      have hand := and15 b s hbl.out
      have hd : b / 2 ^ s % 16 < 16 := Nat.mod_lt _ (by decide)
      have hcd := hex_at (b / 2 ^ s % 16) hd
      have hval : Hid (hxp b i = hexd (b / 2 ^ s % 16)) := by
        show _ = _
        unfold hxp
        rw [show (16 : Nat) = 2 ^ 4 from rfl, ← Nat.pow_mul, show 4 * (15 - i) = s by omega]
      have hyl := hexd_lt hd
      have hnext : Hid ((s : Int) - 4 = 60 - 4 * ((i + 1 : Nat) : Int)) := (by omega : (s : Int) - 4 = 60 - 4 * ((i + 1 : Nat) : Int))
      generalize b / 2 ^ s % 16 = d at hand hd hcd hval hyl
      generalize hexd d = y at hcd hval hyl
      have hi16 : i < 16 := by omega
      rw [hsI]
      clear hsI hs h16
      go_wp2_with (at_builtin; refine wpList_append_own _ rfl _ _ 46 rfl w.heap.size 5 i0 (.int .u8 0) 1 1 Tryd.underlying46 hi0 hz0 hz1 hz2 rfl (by decide) _ _ _ rfl (hrow.out.allocs _) ⟨wr.heap.size, 0, none⟩ 1 1 [.int .u8 (y : Int)] rfl rfl ?c1 ?c2 ?c3 ?c4 ?c5 ?_)
      case c1 =>
        intro j u hj
        match j, hj with
        | 0, hj => simp at hj; subst hj; simp [Addr.add]
      case c2 => intro u hu; simp at hu; subst hu; rfl
      case c3 => unfold maxLen; omega
      case c4 => omega
      case c5 => simp; omega
      · intro v' w1 hown' hgrow hnil
        have hr3 : Hid (Row 5 .u8 w1 w.heap.size v' (i + 1) (hxp b)) := by
          show World.ownsRow _ _ _ _ _ _ _
          rw [Cl_succ, hval.out]; exact hown'
        have hin : Hid (Below w.heap.size w w1) := (hbl2.out.alloc (by omega) _).grown hgrow (by simp; omega) (fun k' hk' => (hrow.out.lt k' hk').1)
        clear hown' hgrow hnil hrow hbl2 hand hcd hval
        go_wp2
        refine ⟨⟨i + 1, by omega, by rw [hnext.out], hr3, hin⟩, ?_⟩
        have := hnext.out
        simp [intOf]
        omega
/-- the sixteen digits of b -/
def hxl (b : Nat) : List UInt8 := (Wd.tab 16 (hxp b)).map UInt8.ofNat
theorem hxl_len (b : Nat) : (hxl b).length = 16 := by simp [hxl, Wd.tab_len]
theorem hxp_lt (b i : Nat) : hxp b i < 256 := hexd_lt (Nat.mod_lt _ (by decide))
theorem hxl_at (b i : Nat) (h : i < (hxl b).length) : ((hxl b)[i].toNat : Int) = (hxp b i : Nat) := by
  have hi : i < 16 := by rw [hxl_len] at h; exact h
  have h1 : (hxl b)[i]? = some (UInt8.ofNat (hxp b i)) := by unfold hxl; rw [List.getElem?_map, Wd.tab_get _ hi]; rfl
  rw [List.getElem?_eq_getElem h] at h1
  have h2 : (hxl b)[i] = UInt8.ofNat (hxp b i) := Option.some.inj h1
  exact (congrArg (fun x : UInt8 => ((x.toNat : Nat) : Int)) h2).trans (congrArg _ (by rw [UInt8.toNat_ofNat', Nat.mod_eq_of_lt (hxp_lt b i)]))
theorem bytes_back (W : World) (B0 : Nat) (v : Value) (b : Nat) (h : Row 5 .u8 W B0 v 16 (hxp b)) :
    ∃ g cap, v = .slice (some ⟨g, 0, none⟩) 16 cap ∧ (convert 46 9 (.slice (some ⟨g, 0, none⟩) 16 cap)).run Tryd.prog W = .ok (.string (B (hxl b))) W := by
  rcases h.cases with ⟨_, h1⟩ | ⟨g, cap, rfl, _⟩
  · omega
  · refine ⟨g, cap, rfl, ?_⟩
    have hc := run_convert_bytes_back (P := Tryd.prog) W 46 9 5 ⟨g, 0, none⟩ cap (hxl b) Tryd.underlying46 Tryd.underlying5 Tryd.underlying9 (fun j hj => by
      have hj16 : j < 16 := by rw [hxl_len] at hj; exact hj
      have e : (⟨g, 0, none⟩ : Addr).add j = ⟨g, j, none⟩ := by
        unfold Addr.add
        split
        · rename_i h; subst h; rfl
        · simp
      rw [e, h.cell j hj16, hxl_at b j hj])
    rw [hxl_len] at hc
    exact hc
set_option maxRecDepth 100000 in
set_option maxHeartbeats 400000 in
theorem float_c (n : Nat) (w : World) (h : Hid (n < 18446744073709551616)) :
    Calls Tryd.prog 12 #[.float .f64 n] w fun e w' => e = .returned (.string (B (hxl (bt n)))) ∧ Below w.heap.size w w' := by
  go_enter Tryd.func12, Tryd.ntmps12
  go_wp2_with fail
  refine (appendFloat_c n w h).mono ?_
  rintro e w1 ⟨v, rfl, hr, hb⟩
  obtain ⟨g, cap, rfl, hcv⟩ := bytes_back w1 _ v _ hr
  clear hr
  go_wp2
  go_ret
  exact ⟨rfl, hb⟩
end Go.Proofs.YtmfnjmgdindlaaaDoor
