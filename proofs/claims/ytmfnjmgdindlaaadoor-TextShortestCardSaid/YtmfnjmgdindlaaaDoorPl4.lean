/-
  Plain at minus one and a half.
-/
import Derived.Test.YtmfnjmgdindlaaaDoorPl3
namespace Go.Proofs.YtmfnjmgdindlaaaDoor
open Flo Go.RowKit
set_option maxRecDepth 100000 in
set_option maxHeartbeats 400000 in
theorem trimRight_n (s r : ByteArray) (w : World) (h0 : s.toList.isEmpty = false) (hc : Hid (Calls Tryd.prog 47 #[.string s, .int .u8 48] w fun e w' => e = .returned (.string r) ∧ w = w')) :
    Calls Tryd.prog 30 #[.string s, .string ⟨#[48]⟩] w fun e w' => e = .returned (.string r) ∧ w = w' := by
  obtain ⟨c, hcs⟩ : ∃ c : ByteArray, c = ⟨#[48]⟩ := ⟨_, rfl⟩
  have h1 : c.size = 1 := by rw [hcs]; rfl
  have h2 : 0 < c.size := by omega
  have h3 : c[0].toNat = 48 := by subst hcs; rfl
  have h4 : c.toList.isEmpty = false := by rw [hcs, ByteArray.toList_eq]; rfl
  rw [← hcs]
  clear hcs
  go_enter Tryd.func30, Tryd.ntmps30
  go_wp2_with fail
  refine hc.out.mono ?_
  rintro e w' ⟨rfl, rfl⟩
  go_wp2
  go_ret
  exact ⟨rfl, rfl⟩
/-- the table of the powers of ten lies where it lay -/
structure Tb (w : World) : Prop where
  tab : Lib.TabIs Tryd.prog w "internal/strconv.uint64pow10" .u64 Lib.pow10Tab
  lt : 3 < w.heap.size
theorem Tb.below {w w' : World} (h : Tb w) (hb : Below w.heap.size w w') : Tb w' :=
  ⟨var?_below hb (g := 3) (by kernel_rfl) h.lt h.tab, Nat.lt_of_lt_of_le h.lt hb.size⟩
theorem rz150 : rz [49, 53, 48, 48, 48, 48, 48, 48, 48, 48, 48, 48, 48, 48, 48, 48, 48, 48] = [49, 53] := by decide
theorem fmt150 (w : World) (ht : Tb w) : Calls Tryd.prog 27 #[.int .u64 150000000000000000, .int .i64 10] w fun e w' => e = .returned (.string (B [49, 53, 48, 48, 48, 48, 48, 48, 48, 48, 48, 48, 48, 48, 48, 48, 48, 48])) ∧ Below w.heap.size w w' := by
  rw [← dec150]
  exact fmtUint_c 150000000000000000 (by decide) (by decide) w ht.tab
theorem ita0 (w : World) (ht : Tb w) : Calls Tryd.prog 29 #[.int .i64 0] w fun e w' => e = .returned (.string (B [48])) ∧ Below w.heap.size w w' := by
  rw [← itoa0]
  exact itoa_c 0 (by decide) (by decide) w ht.tab
theorem trim150 (w : World) : Calls Tryd.prog 30 #[.string (B [49, 53, 48, 48, 48, 48, 48, 48, 48, 48, 48, 48, 48, 48, 48, 48, 48, 48]), .string ⟨#[48]⟩] w fun e w' => e = .returned (.string (B [49, 53])) ∧ w = w' := by
  rw [← rz150]
  exact trimRight_n _ _ w (by rw [B_toList]; rfl) (trimRightByte_c _ w (by decide))
set_option maxRecDepth 100000 in
set_option maxHeartbeats 1000000 in
theorem plainSize_p (w : World) (ht : Hid (Tb w)) :
    Calls Tryd.prog 16 #[.int .u64 4609434218613702656] w fun e w' => e = .returned (.string (B [49, 46, 53, 101, 48])) ∧ Below w.heap.size w w' := by
  have hsz18 : (B [49, 53, 48, 48, 48, 48, 48, 48, 48, 48, 48, 48, 48, 48, 48, 48, 48, 48]).size = 18 := B_size _
  have hsz2 : (B [49, 53]).size = 2 := B_size _
  go_enter Tryd.func16, Tryd.ntmps16
  go_wp2_with fail
  refine (viewOf_p w).mono ?_
  rintro e w1 ⟨rfl, hb1⟩
  have b1 : Hid (Below w.heap.size w w1) := hb1
  clear hb1
  go_wp2_with fail
  generalize hX : w1.alloc (.cells #[.int .i64 (-17), .int .u64 150000000000000000, .bool true, .int .u64 149999999999999989, .int .u64 150000000000000011] 52) = X
  have kv : Hid (Cells X w1.heap.size [.int .i64 (-17), .int .u64 150000000000000000, .bool true, .int .u64 149999999999999989, .int .u64 150000000000000011]) := by rw [← hX]; exact Cells.new _ _ _
  have bx : Hid (Below w.heap.size w X) := by rw [← hX]; exact b1.out.alloc b1.out.size _
  clear hX b1
  refine (shortest_p X).mono ?_
  rintro e w2 ⟨rfl, hb2⟩
  have k2 : Hid (Cells w2 w1.heap.size [.int .i64 (-17), .int .u64 150000000000000000, .bool true, .int .u64 149999999999999989, .int .u64 150000000000000011]) := kv.out.below hb2
  have b2 : Hid (Below w.heap.size w w2) := bx.out.trans (hb2.mono bx.out.size)
  clear hb2 kv bx
  go_wp2_with fail
  refine (fmt150 w2 (ht.out.below b2.out)).mono ?_
  rintro e w3 ⟨rfl, hb3⟩
  have k3 : Hid (Cells w3 w1.heap.size [.int .i64 (-17), .int .u64 150000000000000000, .bool true, .int .u64 149999999999999989, .int .u64 150000000000000011]) := k2.out.below hb3
  have b3 : Hid (Below w.heap.size w w3) := b2.out.trans (hb3.mono b2.out.size)
  have v0 := k3.out.at' 0 _ rfl
  clear hb3 k2 b2
  go_wp2_with fail
  refine (ita0 w3 (ht.out.below b3.out)).mono ?_
  rintro e w4 ⟨rfl, hb4⟩
  have b4 : Hid (Below w.heap.size w w4) := b3.out.trans (hb4.mono b3.out.size)
  clear hb4 k3 b3 v0
  go_wp2_with fail
  refine (trim150 w4).mono ?_
  rintro e w5 ⟨rfl, rfl⟩
  have z1 : (B [49]).size = 1 := B_size _
  have z2 : (B [53]).size = 1 := B_size _
  have z3 : (B [49, 46]).size = 2 := B_size _
  have z4 : (B [49, 46, 53]).size = 3 := B_size _
  have z5 : (B [49, 46, 53, 101]).size = 4 := B_size _
  have z6 : (B [48]).size = 1 := B_size _
  have e0 : (B [49, 53]).extract 0 1 = B [49] := B_pre _ _
  have e1 : (B [49, 53]).extract 1 2 = B [53] := by rw [B_extract]; rfl
  have e2 : B [49] ++ (⟨#[46]⟩ : ByteArray) = B [49, 46] := B_append [49] [46]
  have e3 : B [49, 46] ++ B [53] = B [49, 46, 53] := B_append _ _
  have e4 : B [49, 46, 53] ++ (⟨#[101]⟩ : ByteArray) = B [49, 46, 53, 101] := B_append _ [101]
  have e5 : B [49, 46, 53, 101] ++ B [48] = B [49, 46, 53, 101, 48] := B_append _ _
  go_wp2_with fail
  go_quiet (fail)
  go_wp2
  go_ret
  exact ⟨rfl, below_drewN b4.out _⟩
set_option maxRecDepth 100000 in
set_option maxHeartbeats 1000000 in
theorem plain_p (w : World) (ht : Hid (Tb w)) :
    Calls Tryd.prog 6 #[.float .f64 13832806255468478464] w fun e w' => e = .returned (.string (B [45, 49, 46, 53, 101, 48])) ∧ Below w.heap.size w w' := by
  have hcl : Hid (Calls Tryd.prog 14 #[.float .f64 13832806255468478464] w fun e w' => e = .returned (.int .i64 (cls 13832806255468478464)) ∧ w = w') := class_c 13832806255468478464 w (by decide)
  have hbt : Hid (Calls Tryd.prog 15 #[.float .f64 13832806255468478464] w fun e w' => e = .returned (.int .u64 (bt 13832806255468478464 : Nat)) ∧ w = w') := bits_c 13832806255468478464 w (by decide)
  have hc : cls 13832806255468478464 = 2 := by decide
  have hb : bt 13832806255468478464 = 13832806255468478464 := by decide
  rw [hb] at hbt
  rw [hc] at hcl
  clear hc hb
  have z1 : (B [49, 46, 53, 101, 48]).size = 5 := B_size _
  have e1 : (⟨#[45]⟩ : ByteArray) ++ B [49, 46, 53, 101, 48] = B [45, 49, 46, 53, 101, 48] := B_append [45] _
  have hx1 : bits .andNot .u64 13832806255468478464 9223372036854775808 = 4609434218613702656 := by kernel_rfl
  have hx2 : bits .and .u64 13832806255468478464 9223372036854775808 = 9223372036854775808 := by kernel_rfl
  go_enter Tryd.func6, Tryd.ntmps6
  go_wp2_with fail
  refine hcl.out.mono ?_
  rintro e w' ⟨rfl, rfl⟩
  go_wp2_with fail
  refine hbt.out.mono ?_
  rintro e w' ⟨rfl, rfl⟩
  go_wp2_with fail
  refine (plainSize_p w ht).mono ?_
  rintro e w1 ⟨rfl, hb1⟩
  go_wp2
  go_ret
  exact ⟨rfl, hb1⟩
end Go.Proofs.YtmfnjmgdindlaaaDoor
