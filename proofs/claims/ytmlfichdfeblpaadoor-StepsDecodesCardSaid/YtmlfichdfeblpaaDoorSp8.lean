/-
  Package steps: Encode.
-/
import Derived.Test.YtmlfichdfeblpaaDoorSp7
namespace Go.Proofs.YtmlfichdfeblpaaDoor
open Flo Go.RowKit
theorem pr_mem : ∀ (bl : List Bool) (zs : List Int) (x : Nat), x ∈ Sp.pr bl zs → ∃ z ∈ zs, x = z.toNat
  | [], _, x, h => by simp [Sp.pr] at h
  | _ :: _, [], x, h => by simp [Sp.pr] at h
  | b :: bl, z :: zs, x, h => by
    simp only [Sp.pr, List.mem_append] at h
    rcases h with h | h
    · cases b with
      | false => simp at h
      | true => simp only [cond_true, List.mem_singleton] at h; exact ⟨z, by simp, h⟩
    · obtain ⟨y, hy, e⟩ := pr_mem bl zs x h
      exact ⟨y, by simp [hy], e⟩
theorem pr_len : ∀ (bl : List Bool) (zs : List Int), (Sp.pr bl zs).length ≤ bl.length
  | [], _ => by simp [Sp.pr]
  | _ :: _, [] => by simp [Sp.pr]
  | b :: bl, z :: zs => by
    have := pr_len bl zs
    cases b <;> simp [Sp.pr] <;> omega
theorem enc_len {s : Sp.St} (h : Sp.fm s = true) : (Sp.enc s).length ≤ 70 := by
  have h1 : (Sp.fl s).length ≤ 7 := by
    have := pr_len (Sp.hl s.op.toNat) (Sp.nl s)
    have e : (Sp.hl s.op.toNat).length = 6 := rfl
    simp only [Sp.fl, List.length_cons]
    omega
  have h2 : (Sp.enc s).length ≤ 10 * (Sp.fl s).length := vs_len _ (fun x hx => by
    rcases List.mem_cons.1 hx with rfl | hx
    · have := (Sp.fm_fields h).1; omega
    · obtain ⟨z, hz, rfl⟩ := pr_mem _ _ _ hx
      obtain ⟨i, hi, e⟩ := List.mem_iff_getElem.1 hz
      have := nl_bd h i
      rw [List.getD_eq_getElem?_getD, List.getElem?_eq_getElem hi, Option.getD_some, e] at this
      omega)
  omega
theorem encs_len : ∀ (l : List Sp.St), (∀ s ∈ l, Sp.fm s = true) → (l.flatMap Sp.enc).length ≤ 70 * l.length
  | [], _ => by simp
  | s :: l, h => by
    rw [List.flatMap_cons, List.length_append, List.length_cons]
    have h1 := enc_len (h s (by simp))
    have h2 := encs_len l fun t ht => h t (by simp [ht])
    omega
/-- the numbers ahead of the steps, as far as k -/
def hdk (p : Sp.Pg) (k : Nat) : List Nat := Sp.vs (((Sp.hd p).take k).map Int.toNat)
theorem hdk_succ (p : Sp.Pg) (k : Nat) (hk : k < 4) : hdk p (k + 1) = hdk p k ++ Pk.vi (((Sp.hd p).getD k 0).toNat) :=
  match k, hk with
  | 0, _ => by simp [hdk, Sp.hd, Sp.vs]
  | 1, _ => by simp [hdk, Sp.hd, Sp.vs]
  | 2, _ => by simp [hdk, Sp.hd, Sp.vs]
  | 3, _ => by simp [hdk, Sp.hd, Sp.vs]
  | n + 4, h => absurd h (by omega)
theorem hd_bd {p : Sp.Pg} (h : Sp.inf p = true) {k : Nat} (hk : k < 4) : 0 ≤ (Sp.hd p).getD k 0 ∧ (Sp.hd p).getD k 0 ≤ 262144 := by
  obtain ⟨h1, _⟩ := Sp.inf_parts h
  have hl : (Sp.hd p).length = 4 := rfl
  refine h1 _ ?_
  rw [List.getD_eq_getElem?_getD, List.getElem?_eq_getElem (by rw [hl]; exact hk)]
  exact List.getElem_mem _
theorem hdk_len {p : Sp.Pg} (h : Sp.inf p = true) : ∀ k, k ≤ 4 → (hdk p k).length ≤ 10 * k
  | 0, _ => by simp [hdk, Sp.vs]
  | k + 1, hk => by
    rw [hdk_succ p k (by omega), List.length_append]
    have h1 := hdk_len h k (by omega)
    have h2 := hd_bd h (show k < 4 by omega)
    have h3 := Pk.vi_len (x := ((Sp.hd p).getD k 0).toNat) (by omega)
    omega
theorem encP_eq (p : Sp.Pg) : Sp.encP p = hdk p 4 ++ Pk.vi p.steps.length ++ p.steps.flatMap Sp.enc := by
  unfold Sp.encP
  rw [Sp.vs_app, Sp.vs_one]; rfl
theorem take_enc {l : List Sp.St} {k : Nat} {s : Sp.St} (h : l[k]? = some s) : (l.take (k + 1)).flatMap Sp.enc = (l.take k).flatMap Sp.enc ++ Sp.enc s := by
  obtain ⟨hk, rfl⟩ := List.getElem?_eq_some_iff.1 h
  rw [List.take_succ_eq_append_getElem hk, List.flatMap_append]
  simp
/-- what Encode answers -/
def EncE (al : List Addr) (p : Sp.Pg) (w : World) (e : Ending) (w' : World) : Prop :=
  (Sp.inf p = false ∧ e = .returned (.tuple #[.slice none 0 0, ek al 8]) ∧ Below w.heap.size w w') ∨ (Sp.inf p = true ∧ ∃ v, e = .returned (.tuple #[v, .nilIface]) ∧ NewB w w' v (Sp.encP p))
set_option maxHeartbeats 8000000 in
set_option maxRecDepth 100000 in
theorem sencode_c (p : Sp.Pg) (ao : Option Addr) (n c : Nat) (al : List Addr) (w : World) (ha : Ss w ao p.steps) (hn : n = p.steps.length) (hO : Ops w) (he : Pe w al) :
    Calls Tryd.prog 9 #[pv p (.slice ao n c)] w fun e w' => EncE al p w e w' := by
  obtain ⟨wa, ewa⟩ : ∃ wa, Hid (w.alloc (.cells #[.int .i64 p.len, .int .i64 p.cells, .int .i64 p.inn, .int .i64 p.out, .slice ao n c] 26) = wa) := ⟨_, (rfl : _ = _)⟩
  have Ba : Hid (Below w.heap.size w wa) := by rw [← ewa.out]; exact (Below.refl _ _).alloc (Nat.le_refl _) _
  have X1 : Hid (Bpg wa w.heap.size p (.slice ao n c)) := by rw [← ewa.out]; exact Bpg.new w p (.slice ao n c)
  have haH : Hid (Ss wa ao p.steps) := ha.below Ba.out
  have hOH : Hid (Ops wa) := hO.below Ba.out
  have heH : Hid (Pe wa al) := he.below Ba.out
  have hnH : Hid (n = p.steps.length) := hn
  have h0 : Hid (19 < w.heap.size) := cell_lt (hO 0 (by decide)).1
  have hif : Hid (Calls Tryd.prog 21 #[pv p (.slice ao n c)] wa fun e w' => e = .returned (.bool (Sp.inf p)) ∧ Below wa.heap.size wa w') := sinForm_c p ao n c al wa haH.out hn hOH.out heH.out
  have hhd : Hid (∀ W, Calls Tryd.prog 23 #[pv p (.slice ao n c)] W fun e w' => e = .returned (na (Sp.hd p)) ∧ Below W.heap.size W w') := fun W => shead_c p ao n c W
  have hixH : Hid (∀ k, k < 4 → ∀ W : World, (Instr.index 63 (na (Sp.hd p)) (.int .i64 (k : Nat))).run Tryd.prog W = .ok (.int .i64 ((Sp.hd p).getD k 0)) W) := fun k hk W => na4_index p k hk W
  generalize na (Sp.hd p) = hv at hhd hixH
  clear ha hO he hn
  obtain ⟨b, hb⟩ : ∃ b, Hid (Sp.inf p = b) := ⟨_, (rfl : _ = _)⟩
  rw [hb.out] at hif
  unfold pv at *
  go_enter Tryd.func9, Tryd.ntmps9
  go_upto_region 1 with fail
  rw [ewa.out]
  obtain ⟨x0, x1, x2, x3, x4⟩ := X1.out
  go_wp2_with fail
  refine hif.out.mono ?_
  rintro e w1 ⟨rfl, B1⟩
  have B1H : Hid (Below wa.heap.size wa w1) := B1
  have X2 := X1.out.below B1
  have hp : w1.cell? _ = some _ := heH.out.below B1
  clear x0 x1 x2 x3 x4 X1 B1 hif
  cases b with
  | false =>
    go_wp2
    go_region
    all_goals (
      go_wp2
      go_ret2
      exact .inl ⟨hb.out, rfl, (Ba.out.trans (B1H.out.mono Ba.out.size)).drew⟩)
  | true =>
    go_wp2_with fail
    refine (wnew_c w1 (fun k => w1.heap.size ≤ k) (Nat.le_refl _)).mono ?_
    rintro e w2 ⟨rfl, W2, B2, s2⟩
    obtain ⟨g, hg⟩ : ∃ g, Hid (w1.heap.size = g) := ⟨_, (rfl : _ = _)⟩
    rw [hg.out] at W2 B2 s2 ⊢
    have X3 := X2.below (B2.mono (by rw [← hg.out]; exact Nat.le_refl _))
    have W2H : Hid (Wr (fun k => g ≤ k) w2 g []) := W2
    have B2H : Hid (Below g w1 w2) := B2
    clear W2 B2 X2 hp s2
    obtain ⟨x0, x1, x2, x3, x4⟩ := X3
    go_wp2_with fail
    refine (hhd.out w2).mono ?_
    rintro e w3 ⟨rfl, B3⟩
    have W3 : Hid (Wr (fun k => g ≤ k) w3 g (hdk p 0)) := W2H.out.under (S := fun _ => False) (Fr.of_below B3 fun k h1 h2 => by omega) fun k _ h => h.elim
    have B3H : Hid (Below g w1 w3) := B2H.out.trans (B3.mono (by rw [← hg.out]; exact B2H.out.size))
    clear x0 x1 x2 x3 x4 hhd B3
    go_wp2
    go_loopw [16] (fun i wr => ∃ k : Nat, k ≤ 4 ∧ i = .int .i64 k ∧ Hid (Wr (fun k => g ≤ k) wr g (hdk p k)) ∧ Hid (Below g w1 wr)) (fun i _ => 4 - (intOf i).toNat)
    case atStart => exact ⟨0, Nat.zero_le _, rfl, W3, B3H⟩
    case round =>
      obtain ⟨k, hk, rfl, W4, B4⟩ := hrel
      have s4 : Hid (g ≤ wr.heap.size) := by show _ ≤ _; rw [← hg.out]; exact B4.out.size
      by_cases hlt : k < 4
      · have hlt' : (k : Int) < 4 := by omega
        have hi := hixH.out k hlt
        obtain ⟨X, hX⟩ : ∃ X : Nat, (Sp.hd p).getD k 0 = (X : Int) := ⟨((Sp.hd p).getD k 0).toNat, by have := (hd_bd hb.out hlt).1; omega⟩
        have hXb : X ≤ 262144 := by have := (hd_bd hb.out hlt).2; omega
        rw [hX] at hi
        have hnx : Hid (hdk p (k + 1) = hdk p k ++ Pk.vi X) := by show _ = _; rw [hdk_succ p k hlt, hX, Int.toNat_natCast]
        have hwX : IntKind.u64.wrap (X : Int) = (X : Int) := wrapId _ (by omega)
        have hu := wuint_c (fun k => g ≤ k) g (hdk p k) X wr W4.out (fun k hk => Nat.le_trans s4.out hk) (by omega) (by have := hdk_len hb.out k hk; omega)
        have huH : Hid (Calls Tryd.prog 24 #[.pointer (some ⟨g, 0, none⟩), .int .u64 (X : Nat)] wr fun e w' => e = .returned (.tuple #[]) ∧ Wr (fun k => g ≤ k) w' g (hdk p k ++ Pk.vi X) ∧ Fr (fun k => g ≤ k) wr w') := hu
        clear hu hX
        go_wp2_with fail
        refine huH.out.mono ?_
        rintro e w5 ⟨rfl, W5, F5⟩
        rw [← hnx.out] at W5
        have W5H : Hid (Wr (fun k => g ≤ k) w5 g (hdk p (k + 1))) := W5
        have B5 : Hid (Below g w1 w5) := F5.below B4.out s4.out fun k _ h => h
        clear W5 F5 huH W4 B4 hnx
        go_wp2_with fail
        go_roundw
        case rel => exact ⟨k + 1, by omega, by go_num, W5H, B5⟩
        case measure => simp [intOf]; omega
      · have hlt' : decide ((k : Int) < 4) = false := decide_eq_false (by omega)
        have hk4 : k = 4 := by omega
        rw [hk4] at W4
        clear hk hlt
        have hnb : n ≤ 65536 := by rw [hnH.out]; exact (Sp.inf_parts hb.out).2.1
        have hwn : IntKind.u64.wrap (n : Int) = (n : Int) := wrapId _ (by omega)
        have Bx : Hid (Below wa.heap.size wa wr) := B1H.out.trans (B4.out.mono (by rw [← hg.out]; exact B1H.out.size))
        have X6 := (show Bpg wa w.heap.size p (.slice ao n c) by rw [← ewa.out]; exact Bpg.new w p (.slice ao n c)).below Bx.out
        have hu := wuint_c (fun k => g ≤ k) g (hdk p 4) n wr W4.out (fun k hk => Nat.le_trans s4.out hk) (by omega) (by have := hdk_len hb.out 4 (by decide); omega)
        have huH : Hid (Calls Tryd.prog 24 #[.pointer (some ⟨g, 0, none⟩), .int .u64 (n : Nat)] wr fun e w' => e = .returned (.tuple #[]) ∧ Wr (fun k => g ≤ k) w' g (hdk p 4 ++ Pk.vi n) ∧ Fr (fun k => g ≤ k) wr w') := hu
        clear hu
        obtain ⟨x0, x1, x2, x3, x4⟩ := X6
        go_wp2_with fail
        refine huH.out.mono ?_
        rintro e w7 ⟨rfl, W7, F7⟩
        have W7H : Hid (Wr (fun k => g ≤ k) w7 g (hdk p 4 ++ Pk.vi n ++ (p.steps.take 0).flatMap Sp.enc)) := by show Wr _ _ _ _; simpa using W7
        have B7 : Hid (Below g w1 w7) := F7.below B4.out s4.out fun k _ h => h
        have Bx7 : Hid (Below wa.heap.size wa w7) := B1H.out.trans (B7.out.mono (by rw [← hg.out]; exact B1H.out.size))
        have X8 := (show Bpg wa w.heap.size p (.slice ao n c) by rw [← ewa.out]; exact Bpg.new w p (.slice ao n c)).below Bx7.out
        clear x0 x1 x2 x3 x4 W7 F7 W4 B4 huH Bx
        obtain ⟨x0, x1, x2, x3, x4⟩ := X8
        go_wp2
        rename World => wq
        go_loopw [33] (fun i wr => ∃ k : Nat, k ≤ n ∧ i = .int .i64 k ∧ Hid (Wr (fun k => g ≤ k) wr g (hdk p 4 ++ Pk.vi n ++ (p.steps.take k).flatMap Sp.enc)) ∧ Hid (Below g w1 wr)) (fun i _ => n - (intOf i).toNat)
        case atStart => exact ⟨0, Nat.zero_le _, rfl, W7H, B7⟩
        case round =>
          obtain ⟨m, hm, rfl, W9, B9⟩ := hrel
          have s9 : Hid (g ≤ wr.heap.size) := by show _ ≤ _; rw [← hg.out]; exact B9.out.size
          have hfl : Hid ((hdk p 4 ++ Pk.vi n ++ (p.steps.take m).flatMap Sp.enc).length ≤ 140737488330000) := by
            have h1 := hdk_len hb.out 4 (by decide)
            have h2 := Pk.vi_len (x := n) (by omega)
            have h3 := encs_len (p.steps.take m) fun s hs => (Sp.inf_parts hb.out).2.2 s (List.mem_of_mem_take hs)
            have h4 : (p.steps.take m).length ≤ n := by rw [List.length_take]; omega
            show _ ≤ _
            rw [List.length_append, List.length_append]
            omega
          by_cases hlm : m < n
          · have hlm' : (m : Int) < (n : Int) := by omega
            obtain ⟨s, hs⟩ : ∃ s, p.steps[m]? = some s := ⟨_, List.getElem?_eq_getElem (by rw [← hnH.out]; exact hlm)⟩
            have hfs : Hid (Sp.fm s = true) := (Sp.inf_parts hb.out).2.2 s (List.mem_of_getElem? hs)
            have hts : Hid ((p.steps.take (m + 1)).flatMap Sp.enc = (p.steps.take m).flatMap Sp.enc ++ Sp.enc s) := take_enc hs
            obtain ⟨q, o, rfl, hat⟩ := haH.out m s hs
            have Bxr : Below wa.heap.size wa wr := B1H.out.trans (B9.out.mono (by rw [← hg.out]; exact B1H.out.size))
            obtain ⟨y0, y1, y2, y3, y4, y5, y6⟩ := hat.below Bxr
            obtain ⟨wb, ewb⟩ : ∃ wb, Hid (wr.alloc (.cells #[.int .i64 s.op, .int .i64 s.dst, .int .i64 s.src, .int .i64 s.jump, .int .i64 s.count, .int .i64 s.n, .int .i64 s.k] 36) = wb) := ⟨_, (rfl : _ = _)⟩
            have Bbr : Below wr.heap.size wr wb := by rw [← ewb.out]; exact (Below.refl _ _).alloc (Nat.le_refl _) _
            have Bb : Hid (Below g w1 wb) := B9.out.trans (Bbr.mono s9.out)
            have Xb : Hid (Bst wb wr.heap.size s.op s.dst s.src s.jump s.count s.n s.k) := by show Bst _ _ _ _ _ _ _ _ _; rw [← ewb.out]; exact Bst.new wr _ _ _ _ _ _ _
            have Wb : Wr (fun k => g ≤ k) wb g (hdk p 4 ++ Pk.vi n ++ (p.steps.take m).flatMap Sp.enc) := W9.out.under (S := fun _ => False) (Fr.of_below Bbr fun k h1 h2 => by omega) fun k _ h => h.elim
            have sb : Hid (g ≤ wb.heap.size) := Nat.le_trans s9.out Bbr.size
            have hws := swriteStep_c (fun k => g ≤ k) g _ s wb Wb (fun k hk => Nat.le_trans sb.out hk) ((hOH.out.below Bxr).below Bbr) (by
              show ¬ g ≤ _
              have h1 := h0.out
              have h2 := Ba.out.size
              have h3 := B1H.out.size
              rw [hg.out] at h3
              omega) hfs.out (by have := hfl.out; omega)
            have hwsH : Hid (Calls Tryd.prog 25 #[.pointer (some ⟨g, 0, none⟩), sv s] wb fun e w' => e = .returned (.tuple #[]) ∧ Wr (fun k => g ≤ k) w' g (hdk p 4 ++ Pk.vi n ++ (p.steps.take m).flatMap Sp.enc ++ Sp.enc s) ∧ Fr (fun k => g ≤ k) wb w') := hws
            unfold sv sva at hwsH
            clear hws hs hat Bxr Wb Bbr hfl
            go_upto_region 13 with fail
            rw [ewb.out]
            clear y0 y1 y2 y3 y4 y5 y6
            obtain ⟨y0, y1, y2, y3, y4, y5, y6⟩ := Xb.out
            go_wp2_with fail
            refine hwsH.out.mono ?_
            rintro e wx ⟨rfl, Wx, Fx⟩
            rw [List.append_assoc, ← hts.out] at Wx
            have WxH : Hid (Wr (fun k => g ≤ k) wx g (hdk p 4 ++ Pk.vi n ++ (p.steps.take (m + 1)).flatMap Sp.enc)) := Wx
            have Bxx : Hid (Below g w1 wx) := Fx.below Bb.out sb.out fun k _ h => h
            clear y0 y1 y2 y3 y4 y5 y6 Wx Fx hwsH Xb W9 B9 hts
            go_wp2_with fail
            go_roundw
            case rel => exact ⟨m + 1, by omega, by go_num, WxH, Bxx⟩
            case measure => simp [intOf]; omega
          · have hlm' : decide ((m : Int) < (n : Int)) = false := decide_eq_false (by omega)
            have hlm2 : ¬ m < n := hlm
            have hmn : m = p.steps.length := by rw [← hnH.out]; omega
            have hall : Hid (hdk p 4 ++ Pk.vi n ++ (p.steps.take m).flatMap Sp.enc = Sp.encP p) := by
              show _ = _
              rw [encP_eq, hnH.out, hmn, List.take_length]
            rw [hall.out] at W9 hfl
            have hw := wout_c (fun k => g ≤ k) g _ wr W9.out (by have := hfl.out; omega)
            have hwH : Hid (Calls Tryd.prog 26 #[.pointer (some ⟨g, 0, none⟩)] wr fun e w' => ∃ v', e = .returned v' ∧ NewB wr w' v' (Sp.encP p)) := hw
            clear hw hmn
            go_wp2_with fail
            refine hwH.out.mono ?_
            rintro e wy ⟨v, rfl, hN⟩
            have hNH : Hid (NewB wr wy v (Sp.encP p)) := hN
            clear hN hwH
            go_wp2_with fail
            go_ret2
            have hz : Below w.heap.size w wr := (Ba.out.trans (B1H.out.mono Ba.out.size)).trans (B9.out.mono (by
              have h2 := Ba.out.size
              have h3 := B1H.out.size
              rw [hg.out] at h3
              omega))
            exact .inr ⟨hb.out, v, rfl, hNH.out.own, fun b hb' => Nat.le_trans hz.size (hNH.out.new b hb'), hz.trans (hNH.out.below.mono hz.size)⟩
end Go.Proofs.YtmlfichdfeblpaaDoor
