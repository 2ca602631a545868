/-
  TextShortest's own: written, with digits.
-/
import Derived.Test.YtmfnjmgdindlaaaDoorQh
namespace Go.Proofs.YtmfnjmgdindlaaaDoor
open Flo Go.RowKit
/-- digits as bytes -/
def dgl (f : Nat → Nat) (k : Nat) : List UInt8 := (Wd.tab k f).map fun d => UInt8.ofNat (48 + d)
theorem dgl_len (f : Nat → Nat) (k : Nat) : (dgl f k).length = k := by simp [dgl, Wd.tab_len]
theorem dgl_succ (f : Nat → Nat) (k : Nat) : dgl f (k + 1) = dgl f k ++ [UInt8.ofNat (48 + f k)] := by simp [dgl, Wd.tab_succ]
/-- with a point behind the first -/
def wrd (f : Nat → Nat) (k : Nat) : List UInt8 := if k ≤ 1 then dgl f k else (dgl f k).take 1 ++ [46] ++ (dgl f k).drop 1
theorem wrd_0 (f : Nat → Nat) : wrd f 0 = [] := rfl
theorem wrd_1 (f : Nat → Nat) : wrd f 1 = [UInt8.ofNat (48 + f 0)] := by unfold wrd; rw [if_pos (by decide), dgl_succ]; rfl
theorem wrd_2 (f : Nat → Nat) : wrd f 2 = wrd f 1 ++ [46] ++ [UInt8.ofNat (48 + f 1)] := by
  unfold wrd; rw [if_neg (by decide), if_pos (by decide), dgl_succ, dgl_succ]; rfl
theorem wrd_succ (f : Nat → Nat) (k : Nat) (h : 2 ≤ k) : wrd f (k + 1) = wrd f k ++ [UInt8.ofNat (48 + f k)] := by
  unfold wrd
  rw [if_neg (by omega), if_neg (by omega), dgl_succ]
  have hl := dgl_len f k
  rw [List.take_append_of_le_length (by omega), List.drop_append_of_le_length (by omega)]
  simp
theorem wrd_len (f : Nat → Nat) (k : Nat) : (wrd f k).length ≤ k + 1 := by
  unfold wrd
  split
  · rw [dgl_len]; omega
  · simp [dgl_len]; omega
set_option maxRecDepth 100000 in
set_option maxHeartbeats 1000000 in
theorem writtenL_g (Q : List UInt8 → Prop) (hQ : Hid (∀ l, Q l → l.length ≤ 20)) (sg : Bool) (k : Nat) (f : Nat → Nat) (B0 g cap : Nat) (x : Int) (w : World) (hr : Hid (Row 3 .i64 w B0 (.slice (some ⟨g, 0, none⟩) k cap) k f)) (hf : Hid (∀ j, j < k → f j ≤ 9)) (hk : k ≤ 300) (h1 : -5000 ≤ x) (h2 : x ≤ 5000)
    (hsm : ∀ w, Calls Tryd.prog 21 #[.int .i64 (x.natAbs : Int)] w fun e w' => ∃ l, e = .returned (.string (B l)) ∧ Q l ∧ Below w.heap.size w w') :
    Calls Tryd.prog 10 #[.bool sg, .slice (some ⟨g, 0, none⟩) k cap, .int .i64 x] w fun e w' => ∃ el, e = .returned (.string (B ((if sg then [45] else []) ++ wrd f k ++ exl x el))) ∧ Q el ∧ Below w.heap.size w w' := by
  obtain ⟨n, hn⟩ : ∃ n : Nat, x.natAbs = n := ⟨_, rfl⟩
  rw [hn] at hsm
  have hs : Hid (∀ w, Calls Tryd.prog 21 #[.int .i64 n] w fun e w' => ∃ l, e = .returned (.string (B l)) ∧ Q l ∧ Below w.heap.size w w') := hsm
  clear hsm
  obtain ⟨sl, hsl⟩ : ∃ sl : List UInt8, Hid ((if sg then [45] else []) = sl) := ⟨_, rfl⟩
  have hsll : sl.length ≤ 1 := by rw [← hsl.out]; split <;> simp
  rw [hsl.out]
  cases sg with
  | true =>
    have hsl1 : sl = [45] := by rw [← hsl.out]; rfl
    subst hsl1
    clear hsl
    go_enter Tryd.func10, Tryd.ntmps10
    go_wp2_with fail
    go_loopw [7, 13] (fun ss si wr => ∃ (i : Nat) (S : ByteArray), i ≤ k ∧ si = .int .i64 i ∧ ss = .string S ∧ S.size ≤ 310 ∧ Hid (B ([45] ++ wrd f i) = S) ∧ Hid (Below w.heap.size w wr)) (fun _ si _ => k - (intOf si).toNat)
    case atStart => exact ⟨0, _, Nat.zero_le _, rfl, rfl, by decide, rfl, Below.refl _ _⟩
    case round =>
      obtain ⟨i, S, hi, rfl, rfl, hSs, hS, hb⟩ := hrel
      have hsz := hb.out.size
      by_cases hlt : i < k
      · have hlt' : (i : Int) < (k : Int) := by omega
        have hcell := (hr.out.under hb.out).cell i hlt
        have hd9 := hf.out i hlt
        obtain ⟨d, hd⟩ : ∃ d, Hid (f i = d) := ⟨_, rfl⟩
        rw [hd.out] at hcell hd9
        obtain ⟨y, hy⟩ : ∃ y, 48 + d = y := ⟨_, rfl⟩
        have hcv := one_byte wr y (by omega)
        have hI : (48 : Int) + (d : Int) = (y : Int) := by omega
        have hyl : y < 256 := by omega
        have hbn : Hid (Below w.heap.size w (wr.alloc (.cells #[.int .u8 (y : Int)] 5))) := hb.out.alloc hsz _
        have hwl := wrd_len f (i + 1)
        obtain ⟨T, hT'⟩ : ∃ T, B ([45] ++ wrd f (i + 1)) = T := ⟨_, rfl⟩
        have hT : Hid (B ([45] ++ wrd f (i + 1)) = T) := hT'
        clear hT'
        have hTs : T.size ≤ 310 := by rw [← hT.out, B_size, List.length_append]; simp; omega
        by_cases c1 : i = 1
        · subst c1
          obtain ⟨S1, hS1⟩ : ∃ S1, B ([45] ++ wrd f 1 ++ [46]) = S1 := ⟨_, rfl⟩
          have q1 : S ++ (⟨#[46]⟩ : ByteArray) = S1 := by rw [← hS.out, ← hS1]; exact B_append _ [46]
          have q1s : S1.size ≤ 311 := by rw [← hS1, ← B_append, ByteArray.size_append, hS.out]; show S.size + 1 ≤ 311; omega
          have q2 : S1 ++ B [UInt8.ofNat y] = T := by rw [← hS1, ← hT.out, wrd_2, ← hy, ← hd.out, B_append]; simp
          clear hS1 hS hd hwl hb hy
          have hsz1 : (B [UInt8.ofNat y]).size = 1 := B_size _
          have hlt1 : (1 : Int) < (k : Int) := by omega
          go_wp2
          refine ⟨⟨2, T, by omega, by go_num, rfl, hTs, hT, hbn⟩, ?_⟩
          simp [intOf]
          omega
        · have c1' : ((i : Int) == 1) = false := beq_eq_false_iff_ne.2 (by omega)
          have q2 : S ++ B [UInt8.ofNat y] = T := by
            rw [← hS.out, ← hT.out, ← hy, ← hd.out, B_append]
            congr 1
            by_cases c0 : i = 0
            · subst c0; rw [wrd_1, wrd_0]; simp
            · rw [wrd_succ f i (by omega), List.append_assoc]
          clear hS hd hwl hb hy
          have hsz1 : (B [UInt8.ofNat y]).size = 1 := B_size _
          go_wp2
          refine ⟨⟨i + 1, T, by omega, by go_num, rfl, hTs, hT, hbn⟩, ?_⟩
          simp [intOf]
          omega
      · have hlt' : ¬ ((i : Int) < (k : Int)) := by omega
        have hik : i = k := by omega
        subst hik
        by_cases cx : x < 0
        · have hxn : -x = (n : Int) := by omega
          obtain ⟨S1, hS1⟩ : ∃ S1, B ([45] ++ wrd f i ++ [101, 45]) = S1 := ⟨_, rfl⟩
          have q1 : S ++ (⟨#[101, 45]⟩ : ByteArray) = S1 := by rw [← hS.out, ← hS1]; exact B_append _ [101, 45]
          have q1s : S1.size ≤ 312 := by rw [← hS1, ← B_append, ByteArray.size_append, hS.out]; show S.size + 2 ≤ 312; omega
          have hS1H : Hid (B ([45] ++ wrd f i ++ [101, 45]) = S1) := hS1
          clear hS1 hS hf hr hn
          go_wp2_with fail
          refine Calls.mono (hs.out _) ?_
          rintro e w1 ⟨el, rfl, hd, hb1⟩
          have hdl : el.length ≤ 20 := hQ.out _ hd
          have hdH : Hid (Q el) := hd
          have hb1H : Hid (Below w.heap.size w w1) := hb.out.trans (hb1.mono hsz)
          obtain ⟨el', hel⟩ : ∃ el', B el = el' := ⟨_, rfl⟩
          have hels : el'.size ≤ 20 := by rw [← hel, B_size]; exact hdl
          obtain ⟨T, hT⟩ : ∃ T, B ([45] ++ wrd f i ++ exl x el) = T := ⟨_, rfl⟩
          have q2 : S1 ++ el' = T := by rw [← hS1H.out, ← hel, ← hT, B_append]; unfold exl; rw [if_pos cx]; simp
          have hTH : Hid (B ([45] ++ wrd f i ++ exl x el) = T) := hT
          rw [hel]
          clear hd hb1 hs hb hT hel hdl
          go_wp2
          go_ret
          exact ⟨el, by (show Ending.returned (Value.string T) = _); rw [← hTH.out]; try simp, hdH.out, hb1H.out⟩
        · have hxn : x = (n : Int) := by omega
          obtain ⟨S1, hS1⟩ : ∃ S1, B ([45] ++ wrd f i ++ [101]) = S1 := ⟨_, rfl⟩
          have q1 : S ++ (⟨#[101]⟩ : ByteArray) = S1 := by rw [← hS.out, ← hS1]; exact B_append _ [101]
          have q1s : S1.size ≤ 312 := by rw [← hS1, ← B_append, ByteArray.size_append, hS.out]; show S.size + 1 ≤ 312; omega
          have hS1H : Hid (B ([45] ++ wrd f i ++ [101]) = S1) := hS1
          clear hS1 hS hf hr hn
          subst hxn
          go_wp2_with fail
          refine Calls.mono (hs.out _) ?_
          rintro e w1 ⟨el, rfl, hd, hb1⟩
          have hdl : el.length ≤ 20 := hQ.out _ hd
          have hdH : Hid (Q el) := hd
          have hb1H : Hid (Below w.heap.size w w1) := hb.out.trans (hb1.mono hsz)
          obtain ⟨el', hel⟩ : ∃ el', B el = el' := ⟨_, rfl⟩
          have hels : el'.size ≤ 20 := by rw [← hel, B_size]; exact hdl
          obtain ⟨T, hT⟩ : ∃ T, B ([45] ++ wrd f i ++ exl (n : Int) el) = T := ⟨_, rfl⟩
          have q2 : S1 ++ el' = T := by rw [← hS1H.out, ← hel, ← hT, B_append]; unfold exl; rw [if_neg (by omega)]; simp
          have hTH : Hid (B ([45] ++ wrd f i ++ exl (n : Int) el) = T) := hT
          rw [hel]
          clear hd hb1 hs hb hT hel hdl
          go_wp2
          go_ret
          exact ⟨el, by (show Ending.returned (Value.string T) = _); rw [← hTH.out]; try simp, hdH.out, hb1H.out⟩
  | false =>
    have hsl1 : sl = [] := by rw [← hsl.out]; rfl
    subst hsl1
    clear hsl
    go_enter Tryd.func10, Tryd.ntmps10
    go_wp2_with fail
    go_loopw [7, 13] (fun ss si wr => ∃ (i : Nat) (S : ByteArray), i ≤ k ∧ si = .int .i64 i ∧ ss = .string S ∧ S.size ≤ 310 ∧ Hid (B ([] ++ wrd f i) = S) ∧ Hid (Below w.heap.size w wr)) (fun _ si _ => k - (intOf si).toNat)
    case atStart => exact ⟨0, _, Nat.zero_le _, rfl, rfl, by decide, rfl, Below.refl _ _⟩
    case round =>
      obtain ⟨i, S, hi, rfl, rfl, hSs, hS, hb⟩ := hrel
      have hsz := hb.out.size
      by_cases hlt : i < k
      · have hlt' : (i : Int) < (k : Int) := by omega
        have hcell := (hr.out.under hb.out).cell i hlt
        have hd9 := hf.out i hlt
        obtain ⟨d, hd⟩ : ∃ d, Hid (f i = d) := ⟨_, rfl⟩
        rw [hd.out] at hcell hd9
        obtain ⟨y, hy⟩ : ∃ y, 48 + d = y := ⟨_, rfl⟩
        have hcv := one_byte wr y (by omega)
        have hI : (48 : Int) + (d : Int) = (y : Int) := by omega
        have hyl : y < 256 := by omega
        have hbn : Hid (Below w.heap.size w (wr.alloc (.cells #[.int .u8 (y : Int)] 5))) := hb.out.alloc hsz _
        have hwl := wrd_len f (i + 1)
        obtain ⟨T, hT'⟩ : ∃ T, B ([] ++ wrd f (i + 1)) = T := ⟨_, rfl⟩
        have hT : Hid (B ([] ++ wrd f (i + 1)) = T) := hT'
        clear hT'
        have hTs : T.size ≤ 310 := by rw [← hT.out, B_size, List.length_append]; simp; omega
        by_cases c1 : i = 1
        · subst c1
          obtain ⟨S1, hS1⟩ : ∃ S1, B ([] ++ wrd f 1 ++ [46]) = S1 := ⟨_, rfl⟩
          have q1 : S ++ (⟨#[46]⟩ : ByteArray) = S1 := by rw [← hS.out, ← hS1]; exact B_append _ [46]
          have q1s : S1.size ≤ 311 := by rw [← hS1, ← B_append, ByteArray.size_append, hS.out]; show S.size + 1 ≤ 311; omega
          have q2 : S1 ++ B [UInt8.ofNat y] = T := by rw [← hS1, ← hT.out, wrd_2, ← hy, ← hd.out, B_append]; simp
          clear hS1 hS hd hwl hb hy
          have hsz1 : (B [UInt8.ofNat y]).size = 1 := B_size _
          have hlt1 : (1 : Int) < (k : Int) := by omega
          go_wp2
          refine ⟨⟨2, T, by omega, by go_num, rfl, hTs, hT, hbn⟩, ?_⟩
          simp [intOf]
          omega
        · have c1' : ((i : Int) == 1) = false := beq_eq_false_iff_ne.2 (by omega)
          have q2 : S ++ B [UInt8.ofNat y] = T := by
            rw [← hS.out, ← hT.out, ← hy, ← hd.out, B_append]
            congr 1
            by_cases c0 : i = 0
            · subst c0; rw [wrd_1, wrd_0]; simp
            · rw [wrd_succ f i (by omega), List.append_assoc]
          clear hS hd hwl hb hy
          have hsz1 : (B [UInt8.ofNat y]).size = 1 := B_size _
          go_wp2
          refine ⟨⟨i + 1, T, by omega, by go_num, rfl, hTs, hT, hbn⟩, ?_⟩
          simp [intOf]
          omega
      · have hlt' : ¬ ((i : Int) < (k : Int)) := by omega
        have hik : i = k := by omega
        subst hik
        by_cases cx : x < 0
        · have hxn : -x = (n : Int) := by omega
          obtain ⟨S1, hS1⟩ : ∃ S1, B ([] ++ wrd f i ++ [101, 45]) = S1 := ⟨_, rfl⟩
          have q1 : S ++ (⟨#[101, 45]⟩ : ByteArray) = S1 := by rw [← hS.out, ← hS1]; exact B_append _ [101, 45]
          have q1s : S1.size ≤ 312 := by rw [← hS1, ← B_append, ByteArray.size_append, hS.out]; show S.size + 2 ≤ 312; omega
          have hS1H : Hid (B ([] ++ wrd f i ++ [101, 45]) = S1) := hS1
          clear hS1 hS hf hr hn
          go_wp2_with fail
          refine Calls.mono (hs.out _) ?_
          rintro e w1 ⟨el, rfl, hd, hb1⟩
          have hdl : el.length ≤ 20 := hQ.out _ hd
          have hdH : Hid (Q el) := hd
          have hb1H : Hid (Below w.heap.size w w1) := hb.out.trans (hb1.mono hsz)
          obtain ⟨el', hel⟩ : ∃ el', B el = el' := ⟨_, rfl⟩
          have hels : el'.size ≤ 20 := by rw [← hel, B_size]; exact hdl
          obtain ⟨T, hT⟩ : ∃ T, B ([] ++ wrd f i ++ exl x el) = T := ⟨_, rfl⟩
          have q2 : S1 ++ el' = T := by rw [← hS1H.out, ← hel, ← hT, B_append]; unfold exl; rw [if_pos cx]; simp
          have hTH : Hid (B ([] ++ wrd f i ++ exl x el) = T) := hT
          rw [hel]
          clear hd hb1 hs hb hT hel hdl
          go_wp2
          go_ret
          exact ⟨el, by (show Ending.returned (Value.string T) = _); rw [← hTH.out]; try simp, hdH.out, hb1H.out⟩
        · have hxn : x = (n : Int) := by omega
          obtain ⟨S1, hS1⟩ : ∃ S1, B ([] ++ wrd f i ++ [101]) = S1 := ⟨_, rfl⟩
          have q1 : S ++ (⟨#[101]⟩ : ByteArray) = S1 := by rw [← hS.out, ← hS1]; exact B_append _ [101]
          have q1s : S1.size ≤ 312 := by rw [← hS1, ← B_append, ByteArray.size_append, hS.out]; show S.size + 1 ≤ 312; omega
          have hS1H : Hid (B ([] ++ wrd f i ++ [101]) = S1) := hS1
          clear hS1 hS hf hr hn
          subst hxn
          go_wp2_with fail
          refine Calls.mono (hs.out _) ?_
          rintro e w1 ⟨el, rfl, hd, hb1⟩
          have hdl : el.length ≤ 20 := hQ.out _ hd
          have hdH : Hid (Q el) := hd
          have hb1H : Hid (Below w.heap.size w w1) := hb.out.trans (hb1.mono hsz)
          obtain ⟨el', hel⟩ : ∃ el', B el = el' := ⟨_, rfl⟩
          have hels : el'.size ≤ 20 := by rw [← hel, B_size]; exact hdl
          obtain ⟨T, hT⟩ : ∃ T, B ([] ++ wrd f i ++ exl (n : Int) el) = T := ⟨_, rfl⟩
          have q2 : S1 ++ el' = T := by rw [← hS1H.out, ← hel, ← hT, B_append]; unfold exl; rw [if_neg (by omega)]; simp
          have hTH : Hid (B ([] ++ wrd f i ++ exl (n : Int) el) = T) := hT
          rw [hel]
          clear hd hb1 hs hb hT hel hdl
          go_wp2
          go_ret
          exact ⟨el, by (show Ending.returned (Value.string T) = _); rw [← hTH.out]; try simp, hdH.out, hb1H.out⟩
theorem writtenL_c (sg : Bool) (k : Nat) (f : Nat → Nat) (B0 g cap : Nat) (x : Int) (w : World) (hr : Hid (Row 3 .i64 w B0 (.slice (some ⟨g, 0, none⟩) k cap) k f)) (hf : Hid (∀ j, j < k → f j ≤ 9)) (hk : k ≤ 300) (h1 : -5000 ≤ x) (h2 : x ≤ 5000) :
    Calls Tryd.prog 10 #[.bool sg, .slice (some ⟨g, 0, none⟩) k cap, .int .i64 x] w fun e w' => ∃ el, e = .returned (.string (B ((if sg then [45] else []) ++ wrd f k ++ exl x el))) ∧ Ds x.natAbs el ∧ Below w.heap.size w w' :=
  writtenL_g (Ds x.natAbs) (fun _ h => h.len) sg k f B0 g cap x w hr hf hk h1 h2 fun w => small_c x.natAbs w (Nat.lt_of_le_of_lt (show x.natAbs ≤ 5000 by omega) (by decide))
set_option maxRecDepth 100000 in
set_option maxHeartbeats 400000 in
theorem small0_c (w : World) : Calls Tryd.prog 21 #[.int .i64 0] w fun e w' => ∃ l, e = .returned (.string (B l)) ∧ l = [48] ∧ Below w.heap.size w w' := by
  have hcv : (convert 46 9 (.slice (some ⟨w.heap.size, 0, none⟩) 1 1)).run Tryd.prog (w.alloc (.cells #[.int .u8 48] 5)) = .ok (.string (B [48])) (w.alloc (.cells #[.int .u8 48] 5)) := one_byte w 48 (by decide)
  have hb : Hid (Below w.heap.size w (w.alloc (.cells #[.int .u8 48] 5))) := (Below.refl _ w).alloc (Nat.le_refl _) _
  go_enter Tryd.func21, Tryd.ntmps21
  go_wp2
  go_loopw [0, 3] (fun sn ss wr => sn = .int .i64 0 ∧ ss = .string (B [48]) ∧ wr = w.alloc (.cells #[.int .u8 48] 5)) (fun _ _ _ => 0)
  case atStart => exact ⟨rfl, rfl, rfl⟩
  case round =>
    obtain ⟨rfl, rfl, rfl⟩ := hrel
    go_wp2
    go_ret
    exact ⟨[48], rfl, rfl, hb.out⟩
/-- at the exponent 0: "e0" -/
theorem writtenL_0 (sg : Bool) (k : Nat) (f : Nat → Nat) (B0 g cap : Nat) (w : World) (hr : Hid (Row 3 .i64 w B0 (.slice (some ⟨g, 0, none⟩) k cap) k f)) (hf : Hid (∀ j, j < k → f j ≤ 9)) (hk : k ≤ 300) :
    Calls Tryd.prog 10 #[.bool sg, .slice (some ⟨g, 0, none⟩) k cap, .int .i64 0] w fun e w' => e = .returned (.string (B ((if sg then [45] else []) ++ wrd f k ++ [101, 48]))) ∧ Below w.heap.size w w' := by
  refine (writtenL_g (fun l => l = [48]) (fun _ h => by rw [h]; decide) sg k f B0 g cap 0 w hr hf hk (by decide) (by decide) small0_c).mono ?_
  rintro e w' ⟨el, rfl, rfl, hb⟩
  exact ⟨rfl, hb⟩
end Go.Proofs.YtmfnjmgdindlaaaDoor
