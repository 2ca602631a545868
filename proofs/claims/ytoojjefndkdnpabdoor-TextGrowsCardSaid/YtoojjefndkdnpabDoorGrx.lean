/-
  What the walk of TextGrows asks of errors and floats.
-/
import Derived.Test.YtoojjefndkdnpabDoorErs
import Derived.Test.YtoojjefndkdnpabDoorGrw
import Derived.Test.YtoojjefndkdnpabDoorLvt
import Derived.Test.YtoojjefndkdnpabDoorRef
import Derived.Test.YtoojjefndkdnpabDoorFop
namespace Go.Proofs.YtoojjefndkdnpabDoor
open Flo Go.RowKit
theorem err_info : ∃ i j, Tryd.prog.info? 122 = some i ∧ i.comparable = true ∧ Tryd.prog.info? 138 = some j ∧ j.size ≠ 0 := by
  have h1 : (Tryd.prog.info? 122).map (·.comparable) = some true := by kernel_rfl
  have h2 : (Tryd.prog.info? 138).map (fun j => j.size != 0) = some true := by kernel_rfl
  obtain ⟨i, hi, ci⟩ := Option.map_eq_some_iff.1 h1
  obtain ⟨j, hj, cj⟩ := Option.map_eq_some_iff.1 h2
  exact ⟨i, j, hi, ci, hj, by simpa using cj⟩
theorem ev_same (a : Addr) (w : World) : (binOp .eql 27 (ev a) (ev a)).run Tryd.prog w = .ok (.bool true) w := by
  obtain ⟨i, d, hi, ci, hd, sd⟩ := err_info
  exact run_eql_iface_ptr_same w _ Tryd.underlying27 Tryd.underlying122 hi ci hd
theorem ev_nil (a : Addr) (w : World) : (binOp .eql 27 (ev a) .nilIface).run Tryd.prog w = .ok (.bool false) w := by
  unfold ev; kernel_rfl
theorem ev_nnil (a : Addr) (w : World) : (binOp .neq 27 (ev a) .nilIface).run Tryd.prog w = .ok (.bool true) w := by
  unfold ev; kernel_rfl
theorem ev_guard (a : Addr) (op : BinOp) (t : TypeId) (x y : Operand) (b : Value) (w : World) : (eqGuard op t x y (ev a) b).run Tryd.prog w = .ok () w := by
  unfold ev
  cases op <;> cases b <;> rfl
/-- not greater -/
theorem ord_le {a b : Nat} (h : a ≤ b) (hb : b < Rd.inf) : ∃ o, FloatKind.f64.format.order a b = some o ∧ o ≠ .gt := by
  unfold Rd.inf at hb
  refine ⟨_, order_of a b (by omega) (by omega) (by omega) (by omega), ?_⟩
  unfold sv
  rw [if_pos (by omega), if_pos (by omega)]
  intro hc
  rw [Int.compare_eq_gt] at hc
  omega
theorem pp_t {mi : Bool} {n : Nat} {ds el : List UInt8} {x : Int} {et er v : Value} (hd : Ds n ds) (he : Ds x.natAbs el) (h : PP (wtx mi ds x el) et er v) :
    ∃ (r f : Nat) (o : Value), v = .tuple #[.float .f64 f, o] ∧ Hid (Rd.Sp n (cl x) r) ∧ Hid ((Rd.inf ≤ r ∧ f = 0 ∧ o = er) ∨ (r < Rd.inf ∧ f = r + sg mi ∧ o = .nilIface)) := by
  obtain ⟨r, h1, h2⟩ := pp_text hd he h
  rcases h2 with ⟨h2, rfl⟩ | ⟨h2, rfl⟩
  · exact ⟨r, _, _, rfl, h1, .inl ⟨h2, rfl, rfl⟩⟩
  · exact ⟨r, _, _, rfl, h1, .inr ⟨h2, rfl, rfl⟩⟩
theorem wtx_neg (ds : List UInt8) (x : Int) (el : List UInt8) : (⟨#[45]⟩ : ByteArray) ++ B ds ++ B (exl x el) = B (wtx true ds x el) := by
  have h : (⟨#[45]⟩ : ByteArray) = B [45] := rfl
  rw [h, B_append, B_append]
  unfold wtx
  rw [if_pos rfl, List.append_assoc]
theorem neg_size (l : List UInt8) : ((⟨#[45]⟩ : ByteArray) ++ B l).size = l.length + 1 := by
  have h : (⟨#[45]⟩ : ByteArray) = B [45] := rfl
  rw [h, B_append, B_size]
  rfl
set_option maxRecDepth 100000 in
set_option maxHeartbeats 1000000 in
theorem grows_w (a b p q : Nat) (x y : Int) (w : World) (r t : Addr) (hmin : min (a : Int) (b : Int) = (p : Int)) (hmax : max (a : Int) (b : Int) = (q : Int)) (hpq : p ≤ q) (hq : q < 4294967296) (hx : -100000 ≤ x) (hxy : x ≤ y) (hy : y ≤ 100000) (he : Hid (E2 w r t)) (htb : Hid (Tb w)) :
    Calls Tryd.prog 3 #[.int .u32 a, .int .u32 b, .int .i64 x, .int .i64 y] w fun e w' => e = .returned (.bool true) ∧ Below w.heap.size w w' := by
  have hp32 : p < 4294967296 := by omega
  have hpqH : Hid (p ≤ q) := hpq
  clear hpq
  go_enter Tryd.func3, Tryd.ntmps3
  go_wp2_with fail
  refine Calls.mono (lives_c w (ev t) (ev r) he.out.text he.out.range htb) ?_
  rintro e w1 ⟨rfl, hb1⟩
  have b1 : Hid (Below w.heap.size w w1) := hb1
  have e1 : Hid (E2 w1 r t) := he.out.below hb1
  clear hb1 he
  go_wp2_with fail
  refine Calls.mono (written_c x w1 hx (by omega)) ?_
  rintro e w2 ⟨xl, rfl, hxl, hb2⟩
  have b2 : Hid (Below w.heap.size w w2) := b1.out.trans (hb2.mono b1.out.size)
  have e2 : Hid (E2 w2 r t) := e1.out.below hb2
  have hxlH : Hid (Ds x.natAbs xl) := hxl
  clear hb2 b1 e1 hxl
  go_wp2_with fail
  refine Calls.mono (written_c y w2 (by omega) hy) ?_
  rintro e w3 ⟨yl, rfl, hyl, hb3⟩
  have b3 : Hid (Below w.heap.size w w3) := b2.out.trans (hb3.mono b2.out.size)
  have e3 : Hid (E2 w3 r t) := e2.out.below hb3
  have hylH : Hid (Ds y.natAbs yl) := hyl
  clear hb3 b2 e2 hyl
  have hxls : (B (exl x xl)).size ≤ 30 := by rw [B_size]; unfold exl; simp only [List.length_cons, List.length_append]; have := hxlH.out.len; split <;> simp <;> omega
  have hyls : (B (exl y yl)).size ≤ 30 := by rw [B_size]; unfold exl; simp only [List.length_cons, List.length_append]; have := hylH.out.len; split <;> simp <;> omega
  go_wp2_with fail
  refine Calls.mono (small_c p w3 (Nat.lt_of_lt_of_le hp32 (by decide))) ?_
  rintro e w4 ⟨dp, rfl, hdp, hb4⟩
  have b4 : Hid (Below w.heap.size w w4) := b3.out.trans (hb4.mono b3.out.size)
  have e4 : Hid (E2 w4 r t) := e3.out.below hb4
  have hdpH : Hid (Ds p dp) := hdp
  have hdpl : dp.length ≤ 20 := hdp.len
  have hdps : (B dp).size = dp.length := B_size _
  clear hb4 b3 e3 hdp
  go_wp2_with fail
  have ha5 : B dp ++ B (exl x xl) = B (wtx false dp x xl) := B_append _ _
  rw [ha5]
  clear ha5
  refine Calls.mono (parsePlain_c (wtx false dp x xl) w4 (ev t) (ev r) e4.out.text e4.out.range) ?_
  rintro e w5 ⟨v, rfl, hpp, hb5⟩
  obtain ⟨rf, f, of, rfl, hsf, hvf⟩ := pp_t hdpH.out hxlH.out hpp
  have b5 : Hid (Below w.heap.size w w5) := b4.out.trans (hb5.mono b4.out.size)
  have e5 : Hid (E2 w5 r t) := e4.out.below hb5
  clear hb5 b4 e4 hpp
  go_wp2_with fail
  refine Calls.mono (small_c q w5 (Nat.lt_of_lt_of_le hq (by decide))) ?_
  rintro e w6 ⟨dq, rfl, hdq, hb6⟩
  have b6 : Hid (Below w.heap.size w w6) := b5.out.trans (hb6.mono b5.out.size)
  have e6 : Hid (E2 w6 r t) := e5.out.below hb6
  have hdqH : Hid (Ds q dq) := hdq
  have hdql : dq.length ≤ 20 := hdq.len
  have hdqs : (B dq).size = dq.length := B_size _
  clear hb6 b5 e5 hdq
  go_wp2_with fail
  have ha7 : B dq ++ B (exl x xl) = B (wtx false dq x xl) := B_append _ _
  rw [ha7]
  clear ha7
  refine Calls.mono (parsePlain_c (wtx false dq x xl) w6 (ev t) (ev r) e6.out.text e6.out.range) ?_
  rintro e w7 ⟨v, rfl, hpp, hb7⟩
  obtain ⟨rg, g, og, rfl, hsg, hvg⟩ := pp_t hdqH.out hxlH.out hpp
  have b7 : Hid (Below w.heap.size w w7) := b6.out.trans (hb7.mono b6.out.size)
  have e7 : Hid (E2 w7 r t) := e6.out.below hb7
  clear hb7 b6 e6 hpp
  go_wp2_with fail
  refine Calls.mono (small_c q w7 (Nat.lt_of_lt_of_le hq (by decide))) ?_
  rintro e w8 ⟨dh, rfl, hdh, hb8⟩
  have b8 : Hid (Below w.heap.size w w8) := b7.out.trans (hb8.mono b7.out.size)
  have e8 : Hid (E2 w8 r t) := e7.out.below hb8
  have hdhH : Hid (Ds q dh) := hdh
  have hdhl : dh.length ≤ 20 := hdh.len
  have hdhs : (B dh).size = dh.length := B_size _
  clear hb8 b7 e7 hdh
  go_wp2_with fail
  have ha9 : B dh ++ B (exl y yl) = B (wtx false dh y yl) := B_append _ _
  rw [ha9]
  clear ha9
  refine Calls.mono (parsePlain_c (wtx false dh y yl) w8 (ev t) (ev r) e8.out.text e8.out.range) ?_
  rintro e w9 ⟨v, rfl, hpp, hb9⟩
  obtain ⟨rh, h, oh, rfl, hsh, hvh⟩ := pp_t hdhH.out hylH.out hpp
  have b9 : Hid (Below w.heap.size w w9) := b8.out.trans (hb9.mono b8.out.size)
  have e9 : Hid (E2 w9 r t) := e8.out.below hb9
  clear hb9 b8 e8 hpp
  have hfg : Hid (rg < Rd.inf → rf < Rd.inf ∧ rf ≤ rg) := fun h => hsf.out.mono hsg.out (val_mono hpqH.out (Int.le_refl _)) h
  have hgh : Hid (rh < Rd.inf → rg < Rd.inf ∧ rg ≤ rh) := fun h => hsg.out.mono hsh.out (val_mono (Nat.le_refl _) (cl_mono hxy)) h
  have n0 := ev_nil r
  have n1 := ev_nnil r
  have n2 := ev_guard r
  have n3 := ev_same r
  by_cases c1 : rh < Rd.inf
  · obtain ⟨c2, l2⟩ := hgh.out c1
    obtain ⟨c3, l3⟩ := hfg.out c2
    rcases hvh.out with ⟨k, _⟩ | ⟨_, rfl, rfl⟩
    · exact absurd c1 (Nat.not_lt.2 k)
    rcases hvg.out with ⟨k, _⟩ | ⟨_, rfl, rfl⟩
    · exact absurd c2 (Nat.not_lt.2 k)
    rcases hvf.out with ⟨k, _⟩ | ⟨_, rfl, rfl⟩
    · exact absurd c3 (Nat.not_lt.2 k)
    obtain ⟨o1, ho1, hn1⟩ := ord_le l3 c2
    obtain ⟨o2, ho2, hn2⟩ := ord_le l2 c1
    have c1H : Hid (h < Rd.inf) := c1
    clear hvh hvg hvf hfg hgh c1 c2 c3 l2 l3 n0 n1 n2 n3
    cases o1 <;> cases o2 <;> first
      | exact absurd rfl hn1
      | exact absurd rfl hn2
      | (clear hn1 hn2
         go_wp2_with fail
         refine Calls.mono (small_c q w9 (Nat.lt_of_lt_of_le hq (by decide))) ?_
         rintro e w10 ⟨dv, rfl, hdv, hb10⟩
         have b10 : Hid (Below w.heap.size w w10) := b9.out.trans (hb10.mono b9.out.size)
         have e10 : Hid (E2 w10 r t) := e9.out.below hb10
         have hdvH : Hid (Ds q dv) := hdv
         have hdvl : dv.length ≤ 20 := hdv.len
         have hdvs : (B dv).size = dv.length := B_size _
         have hdvn : ((⟨#[45]⟩ : ByteArray) ++ B dv).size = dv.length + 1 := neg_size dv
         clear hb10 b9 e9 hdv
         go_wp2_with fail
         have ha11 : (⟨#[45]⟩ : ByteArray) ++ B dv ++ B (exl y yl) = B (wtx true dv y yl) := wtx_neg _ _ _
         rw [ha11]
         clear ha11 hdvn
         refine Calls.mono (parsePlain_c (wtx true dv y yl) w10 (ev t) (ev r) e10.out.text e10.out.range) ?_
         rintro e w11 ⟨v, rfl, hpp, hb11⟩
         obtain ⟨rv, v, ov, rfl, hsv, hvv⟩ := pp_t hdvH.out hylH.out hpp
         have b11 : Hid (Below w.heap.size w w11) := b10.out.trans (hb11.mono b10.out.size)
         have e11 : Hid (E2 w11 r t) := e10.out.below hb11
         clear hb11 b10 e10 hpp
         have hvq : Hid (v = h + 9223372036854775808 ∧ ov = .nilIface) := by
           rcases hvv.out with ⟨k, _⟩ | ⟨k, k1, k2⟩
           · rcases hsh.out.uniq hsv.out with ⟨_, k1⟩ | ⟨k1, _⟩
             · have := c1H.out; omega
             · have := c1H.out; omega
           · rcases hsh.out.uniq hsv.out with ⟨_, k3⟩ | ⟨k3, _⟩
             · exact ⟨by rw [k1, k3]; rfl, k2⟩
             · have := c1H.out; omega
         obtain ⟨rfl, rfl⟩ := hvq.out
         clear hvv hsv hvq
         have c1' := c1H.out
         unfold Rd.inf at c1'
         have hng : Hid (∀ w, (Op.unary .neg (.float .f64 h)).run Tryd.prog w = .ok (.float .f64 (h + 9223372036854775808)) w) := fun w => by
           rw [run_fneg h w (by omega)]; unfold Ari.ng; rw [if_pos (by omega)]
         have hlt : Hid (h + 9223372036854775808 < 18446744073709551616) := (by omega : h + 9223372036854775808 < 18446744073709551616)
         clear c1'
         go_wp2_with fail
         rw [hng.out]
         clear hng
         generalize h + 9223372036854775808 = hm at hlt ⊢
         go_wp2_with fail
         refine Calls.mono (rsame_c hm hm w11 hlt.out hlt.out) ?_
         rintro e w' ⟨rfl, rfl⟩
         have hgg : ((bt hm : Int) == (bt hm : Int)) = true := by simp
         rw [hgg]
         clear hgg
         go_wp2
         go_ret
         exact ⟨rfl, b11.out⟩)
  · have c1H : Hid (¬ rh < Rd.inf) := c1
    rcases hvh.out with ⟨_, rfl, rfl⟩ | ⟨k, _⟩
    · by_cases c2 : rg < Rd.inf
      · obtain ⟨c3, l3⟩ := hfg.out c2
        rcases hvg.out with ⟨k, _⟩ | ⟨_, rfl, rfl⟩
        · exact absurd c2 (Nat.not_lt.2 k)
        rcases hvf.out with ⟨k, _⟩ | ⟨_, rfl, rfl⟩
        · exact absurd c3 (Nat.not_lt.2 k)
        obtain ⟨o1, ho1, hn1⟩ := ord_le l3 c2
        clear hvh hvg hvf hfg hgh c1 c2 c3 l3
        cases o1 <;> first
          | exact absurd rfl hn1
          | (clear hn1
             go_wp2_with fail
             refine Calls.mono (small_c q w9 (Nat.lt_of_lt_of_le hq (by decide))) ?_
             rintro e w10 ⟨dv, rfl, hdv, hb10⟩
             have b10 : Hid (Below w.heap.size w w10) := b9.out.trans (hb10.mono b9.out.size)
             have e10 : Hid (E2 w10 r t) := e9.out.below hb10
             have hdvH : Hid (Ds q dv) := hdv
             have hdvl : dv.length ≤ 20 := hdv.len
             have hdvs : (B dv).size = dv.length := B_size _
             have hdvn : ((⟨#[45]⟩ : ByteArray) ++ B dv).size = dv.length + 1 := neg_size dv
             clear hb10 b9 e9 hdv
             go_wp2_with fail
             have ha11 : (⟨#[45]⟩ : ByteArray) ++ B dv ++ B (exl y yl) = B (wtx true dv y yl) := wtx_neg _ _ _
             rw [ha11]
             clear ha11 hdvn
             refine Calls.mono (parsePlain_c (wtx true dv y yl) w10 (ev t) (ev r) e10.out.text e10.out.range) ?_
             rintro e w11 ⟨v, rfl, hpp, hb11⟩
             obtain ⟨rv, v, ov, rfl, hsv, hvv⟩ := pp_t hdvH.out hylH.out hpp
             have b11 : Hid (Below w.heap.size w w11) := b10.out.trans (hb11.mono b10.out.size)
             have e11 : Hid (E2 w11 r t) := e10.out.below hb11
             clear hb11 b10 e10 hpp
             have hvq : Hid (ov = ev r) := by
               rcases hvv.out with ⟨k, _, k1⟩ | ⟨k, _, _⟩
               · exact k1
               · rcases hsh.out.uniq hsv.out with ⟨k2, _⟩ | ⟨_, k2⟩
                 · exact absurd k2 c1H.out
                 · omega
             have hov := hvq.out
             subst hov
             clear hvv hsv hvq
             have hcell := e11.out.range
             clear e11
             go_wp2
             go_ret
             exact ⟨rfl, b11.out⟩)
      · rcases hvg.out with ⟨_, rfl, rfl⟩ | ⟨k, _⟩
        · rcases hvf.out with ⟨_, rfl, rfl⟩ | ⟨_, rfl, rfl⟩
          · clear hvh hvg hvf hfg hgh c1 c2
            go_wp2_with fail
            refine Calls.mono (small_c q w9 (Nat.lt_of_lt_of_le hq (by decide))) ?_
            rintro e w10 ⟨dv, rfl, hdv, hb10⟩
            have b10 : Hid (Below w.heap.size w w10) := b9.out.trans (hb10.mono b9.out.size)
            have e10 : Hid (E2 w10 r t) := e9.out.below hb10
            have hdvH : Hid (Ds q dv) := hdv
            have hdvl : dv.length ≤ 20 := hdv.len
            have hdvs : (B dv).size = dv.length := B_size _
            have hdvn : ((⟨#[45]⟩ : ByteArray) ++ B dv).size = dv.length + 1 := neg_size dv
            clear hb10 b9 e9 hdv
            go_wp2_with fail
            have ha11 : (⟨#[45]⟩ : ByteArray) ++ B dv ++ B (exl y yl) = B (wtx true dv y yl) := wtx_neg _ _ _
            rw [ha11]
            clear ha11 hdvn
            refine Calls.mono (parsePlain_c (wtx true dv y yl) w10 (ev t) (ev r) e10.out.text e10.out.range) ?_
            rintro e w11 ⟨v, rfl, hpp, hb11⟩
            obtain ⟨rv, v, ov, rfl, hsv, hvv⟩ := pp_t hdvH.out hylH.out hpp
            have b11 : Hid (Below w.heap.size w w11) := b10.out.trans (hb11.mono b10.out.size)
            have e11 : Hid (E2 w11 r t) := e10.out.below hb11
            clear hb11 b10 e10 hpp
            have hvq : Hid (ov = ev r) := by
              rcases hvv.out with ⟨k, _, k1⟩ | ⟨k, _, _⟩
              · exact k1
              · rcases hsh.out.uniq hsv.out with ⟨k2, _⟩ | ⟨_, k2⟩
                · exact absurd k2 c1H.out
                · omega
            have hov := hvq.out
            subst hov
            clear hvv hsv hvq
            have hcell := e11.out.range
            clear e11
            go_wp2
            go_ret
            exact ⟨rfl, b11.out⟩
          · clear hvh hvg hvf hfg hgh c1 c2
            go_wp2_with fail
            refine Calls.mono (small_c q w9 (Nat.lt_of_lt_of_le hq (by decide))) ?_
            rintro e w10 ⟨dv, rfl, hdv, hb10⟩
            have b10 : Hid (Below w.heap.size w w10) := b9.out.trans (hb10.mono b9.out.size)
            have e10 : Hid (E2 w10 r t) := e9.out.below hb10
            have hdvH : Hid (Ds q dv) := hdv
            have hdvl : dv.length ≤ 20 := hdv.len
            have hdvs : (B dv).size = dv.length := B_size _
            have hdvn : ((⟨#[45]⟩ : ByteArray) ++ B dv).size = dv.length + 1 := neg_size dv
            clear hb10 b9 e9 hdv
            go_wp2_with fail
            have ha11 : (⟨#[45]⟩ : ByteArray) ++ B dv ++ B (exl y yl) = B (wtx true dv y yl) := wtx_neg _ _ _
            rw [ha11]
            clear ha11 hdvn
            refine Calls.mono (parsePlain_c (wtx true dv y yl) w10 (ev t) (ev r) e10.out.text e10.out.range) ?_
            rintro e w11 ⟨v, rfl, hpp, hb11⟩
            obtain ⟨rv, v, ov, rfl, hsv, hvv⟩ := pp_t hdvH.out hylH.out hpp
            have b11 : Hid (Below w.heap.size w w11) := b10.out.trans (hb11.mono b10.out.size)
            have e11 : Hid (E2 w11 r t) := e10.out.below hb11
            clear hb11 b10 e10 hpp
            have hvq : Hid (ov = ev r) := by
              rcases hvv.out with ⟨k, _, k1⟩ | ⟨k, _, _⟩
              · exact k1
              · rcases hsh.out.uniq hsv.out with ⟨k2, _⟩ | ⟨_, k2⟩
                · exact absurd k2 c1H.out
                · omega
            have hov := hvq.out
            subst hov
            clear hvv hsv hvq
            have hcell := e11.out.range
            clear e11
            go_wp2
            go_ret
            exact ⟨rfl, b11.out⟩
        · exact absurd k c2
    · exact absurd k c1
end Go.Proofs.YtoojjefndkdnpabDoor
