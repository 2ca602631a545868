/-
  Package pack: a text that is read.
-/
import Derived.Test.YtjckgcjcpmnhhaaDoorPkd
import Derived.Laws.IdiomStrings
namespace Go.Proofs.YtjckgcjcpmnhhaaDoor
open Flo Go.RowKit
/-- the string of these bytes -/
def mkS (l : List Nat) : ByteArray := ⟨(l.map UInt8.ofNat).toArray⟩
theorem sb_mkS {l : List Nat} (h : ∀ b ∈ l, b < 256) : sb (mkS l) = l := by
  unfold sb mkS
  rw [List.toList_toArray, List.map_map]
  have e : ∀ b ∈ l, (UInt8.toNat ∘ UInt8.ofNat) b = b := fun b hb => by
    show (UInt8.ofNat b).toNat = b
    rw [UInt8.toNat_ofNat']; exact Nat.mod_eq_of_lt (h b hb)
  rw [List.map_congr_left e, List.map_id']
theorem mkS_sb (s : ByteArray) : mkS (sb s) = s := by
  unfold sb mkS
  rw [List.map_map]
  have e : ∀ b ∈ s.data.toList, (UInt8.ofNat ∘ fun x : UInt8 => x.toNat) b = b := fun b _ => by
    show UInt8.ofNat b.toNat = b
    exact UInt8.ofNat_toNat
  rw [List.map_congr_left e, List.map_id']
theorem mkS_size (l : List Nat) : (mkS l).size = l.length := by show (List.toArray _).size = _; simp
/-- bytes to a string -/
theorem conv_src {w : World} {v : Value} {ys : List Nat} (h : SrcB w v ys) (hb : ∀ b ∈ ys, b < 256) : (convert 26 9 v).run Tryd.prog w = .ok (.string (mkS ys)) w := by
  rcases h with ⟨rfl, rfl⟩ | ⟨a, cap, rfl, h⟩
  · kernel_rfl
  · have hc := run_convert_bytes_back (P := Tryd.prog) w 26 9 5 a cap (ys.map UInt8.ofNat) Tryd.underlying26 Tryd.underlying5 Tryd.underlying9 (fun j hj => by
      have hj2 : j < ys.length := by simpa using hj
      have e : ((UInt8.ofNat ys[j]).toNat : Int) = (ys[j] : Int) := by
        rw [UInt8.toNat_ofNat', Nat.mod_eq_of_lt (hb _ (List.getElem_mem hj2))]
      have h1 := h j (.int .u8 (ys[j] : Int)) (by simp [bc, hj2])
      rw [h1, List.getElem_map, e])
    rw [List.length_map] at hc
    exact hc
/-- a text that is read -/
def rtx (most : Int) (bs : List Nat) (k : Nat) : Except Nat (List Nat × Nat) :=
  match upr most (Pk.rv 0 0 (bs.drop k)) with
  | .error e => .error e
  | .ok (c, n) => if bs.length - (k + n) < c then .error 0 else .ok ((bs.drop (k + n)).take c, n + c)
theorem rtx_e {most : Int} {bs : List Nat} {k e : Nat} (h : upr most (Pk.rv 0 0 (bs.drop k)) = .error e) : rtx most bs k = .error e := by unfold rtx; rw [h]
theorem rtx_s {most : Int} {bs : List Nat} {k c n : Nat} (h : upr most (Pk.rv 0 0 (bs.drop k)) = .ok (c, n)) (h2 : bs.length - (k + n) < c) : rtx most bs k = .error 0 := by unfold rtx; rw [h]; exact if_pos h2
theorem rtx_ok {most : Int} {bs : List Nat} {k c n : Nat} (h : upr most (Pk.rv 0 0 (bs.drop k)) = .ok (c, n)) (h2 : ¬ bs.length - (k + n) < c) : rtx most bs k = .ok ((bs.drop (k + n)).take c, n + c) := by unfold rtx; rw [h]; exact if_neg h2
theorem rtx_bd {bs : List Nat} (h : ∀ b ∈ bs, b < 256) (k : Nat) (hk : k ≤ bs.length) (most : Int) : k + Pk.ud (rtx most bs k) ≤ bs.length := by
  have h1 := upr_bd h k hk most
  cases hr : upr most (Pk.rv 0 0 (bs.drop k)) with
  | error e => rw [rtx_e hr]; exact hk
  | ok p =>
    obtain ⟨c, n⟩ := p
    rw [hr] at h1
    have h2 : k + n ≤ bs.length := h1
    by_cases hs : bs.length - (k + n) < c
    · rw [rtx_s hr hs]; exact hk
    · rw [rtx_ok hr hs]; show k + (n + c) ≤ _; omega
/-- the piece's cells -/
theorem piece_src {w : World} {q K c cap : Nat} {bs : List Nat} (h : ∀ i, i < bs.length → w.cell? ⟨q, i, none⟩ = some (.int .u8 (bs.getD i 0 : Nat))) (hK : K + c ≤ bs.length) : SrcB w (.slice (some ⟨q, K, none⟩) c cap) ((bs.drop K).take c) := by
  have hl : ((bs.drop K).take c).length = c := by rw [List.length_take, List.length_drop]; omega
  refine .inr ⟨_, cap, by rw [hl], fun j u hj => ?_⟩
  have hj2 : j < c := by
    have := (List.getElem?_eq_some_iff.1 hj).1
    rw [bc_len, hl] at this; exact this
  have e : (bc ((bs.drop K).take c))[j]? = some (.int .u8 (bs.getD (K + j) 0 : Nat)) := by
    simp [bc, hj2, List.getD, show K + j < bs.length by omega]
  rw [e] at hj
  cases hj
  rw [← h (K + j) (by omega)]
  congr 1
  unfold Addr.add
  by_cases h0 : j = 0
  · subst h0; simp
  · simp [h0]
set_option maxRecDepth 100000 in
set_option maxHeartbeats 4000000 in
theorem rtext_c (R : Nat → Prop) (g k : Nat) (most : Int) (bs : List Nat) (al : List Addr) (w : World) (h : Rr R w g bs k) (he : E5 w al) (hg : ¬ g < 5) (hm : most ≤ 9223372036854775807) :
    Calls Tryd.prog 31 #[.pointer (some ⟨g, 0, none⟩), .int .i64 most] w fun e w' => e = .returned (.tuple #[.string (mkS (lx (rtx most bs k))), ue al (rtx most bs k)]) ∧ Rr R w' g bs (k + Pk.ud (rtx most bs k)) ∧ Fr (fun k => k = g) w w' := by
  have heH : Hid (∀ w', Fr (fun k => k = g) w w' → E5 w' al) := fun w' hf => he.fr hf hg
  have hbig : Hid (bs.length ≤ 140737488355328) := h.big
  have hbyt : Hid (∀ b ∈ bs, b < 256) := h.byt
  have hupb : Hid (k + Pk.ud (upr most (Pk.rv 0 0 (bs.drop k))) ≤ bs.length) := upr_bd h.byt k h.le most
  have hle : Hid (k ≤ bs.length) := h.le
  have hc1 : w.cell? ⟨g, 1, none⟩ = some (.int .i64 (k : Int)) := by obtain ⟨v, h⟩ := h; exact h.c1
  have hru : Hid (Calls Tryd.prog 50 #[.pointer (some ⟨g, 0, none⟩), .int .i64 most] w fun e w' => e = .returned (.tuple #[.int .i64 (Pk.ux (upr most (Pk.rv 0 0 (bs.drop k))) : Nat), ue al (upr most (Pk.rv 0 0 (bs.drop k)))]) ∧ Rr R w' g bs (k + Pk.ud (upr most (Pk.rv 0 0 (bs.drop k)))) ∧ Fr (fun k => k = g) w w') := rupto_c _ g k most bs al w h he hg hm
  have q1 : Hid (∀ e, upr most (Pk.rv 0 0 (bs.drop k)) = .error e → rtx most bs k = .error e) := fun e hh => rtx_e hh
  have q2 : Hid (∀ c n, upr most (Pk.rv 0 0 (bs.drop k)) = .ok (c, n) → bs.length - (k + n) < c → rtx most bs k = .error 0) := fun c n hh => rtx_s hh
  have q3 : Hid (∀ c n, upr most (Pk.rv 0 0 (bs.drop k)) = .ok (c, n) → ¬ bs.length - (k + n) < c → rtx most bs k = .ok ((bs.drop (k + n)).take c, n + c)) := fun c n hh => rtx_ok hh
  have hcl : Hid (∀ c n, upr most (Pk.rv 0 0 (bs.drop k)) = .ok (c, n) → c ≤ 9223372036854775807) := by
    intro c n hh
    cases hr : Pk.rv 0 0 (bs.drop k) with
    | error e => rw [hr] at hh; cases hh
    | ok p =>
      obtain ⟨x, m⟩ := p
      rw [hr] at hh
      by_cases hx : most < 0 ∨ most < (x : Int)
      · rw [upr_lim hx] at hh; cases hh
      · rw [upr_ok hx] at hh; cases hh; omega
  clear h he
  generalize upr most (Pk.rv 0 0 (bs.drop k)) = r at hru hcl hupb q1 q2 q3
  generalize rtx most bs k = rr at q1 q2 q3 ⊢
  go_enter Tryd.func31, Tryd.ntmps31
  go_wp2_with fail
  refine hru.out.mono ?_
  rintro e w1 ⟨rfl, h1, h2⟩
  have h1H : Hid (Rr R w1 g bs (k + Pk.ud r)) := h1
  have h2H : Hid (Fr (fun k => k = g) w w1) := h2
  clear h1 h2 hru
  cases r with
  | error c =>
    have hq := nnil_c al c
    have hgd := guard_c al c
    have hue : ue al (Except.error c : Except Nat (Nat × Nat)) = ek al c := rfl
    have hfin : Hid (rr = .error c) := q1.out c rfl
    clear q1 q2 q3 hcl hupb
    go_wp2
    go_ret2
    rw [hfin.out]
    exact ⟨rfl, h1H.out, h2H.out⟩
  | ok p =>
    obtain ⟨c, n⟩ := p
    have hue : ue al (Except.ok (c, n) : Except Nat (Nat × Nat)) = .nilIface := rfl
    have hux : Pk.ux (Except.ok (c, n)) = c := rfl
    have hc : c ≤ 9223372036854775807 := hcl.out c n rfl
    have hupb2 : Hid (k + n ≤ bs.length) := hupb.out
    obtain ⟨K, hK⟩ : ∃ K, Hid (K = k + n) := ⟨_, rfl⟩
    have h1H2 : Hid (Rr R w1 g bs K) := by rw [hK.out]; exact h1H.out
    have hKb : K ≤ 140737488355328 := by have := hK.out; have := hupb2.out; have := hbig.out; omega
    have q2' : Hid (bs.length - K < c → rr = .error 0) := by rw [hK.out]; exact q2.out c n rfl
    have q3' : Hid (¬ bs.length - K < c → rr = .ok ((bs.drop K).take c, n + c)) := by rw [hK.out]; exact q3.out c n rfl
    clear hcl hupb q1 q2 q3 h1H
    go_wp2_with fail
    refine (rleft_c _ g K bs w1 h1H2.out).mono ?_
    rintro e w2 ⟨L, rfl, hL, hq2⟩
    have h3H : Hid (Fr (fun k => k = g) w w2) := h2H.out.then (hq2.fr _)
    have hE := heH.out w2 h3H.out
    have hsh := hE.short
    obtain ⟨v, hv⟩ := h1H2.out.qt hq2
    have hvH : Hid (RrV R w2 g v bs K) := hv
    have hcc := hv.c1
    have hc0 := hv.c0
    have hfz := hv.free
    clear hE hv hq2 h1H2 h2H
    by_cases hs : bs.length - K < c
    · have hs' : (L : Int) < (c : Int) := by have := hL.out; omega
      have hfin : Hid (rr = .error 0) := q2'.out hs
      have hst : Hid (Rr R (w2.setCell ⟨g, 1, none⟩ (.int .i64 (k : Int))) g bs k) := ⟨v, hvH.out.move hle.out⟩
      have hshs : (w2.setCell ⟨g, 1, none⟩ (.int .i64 (k : Int))).cell? ⟨2, 0, none⟩ = some (ek al 0) := by rw [World.cell?_setCell_other _ _ _ _ (by simp)]; exact hsh
      clear q2' q3' hL hs
      go_wp2
      go_region
      go_wp2
      go_ret2
      rw [hfin.out]
      exact ⟨rfl, hst.out.qt (Qt.drew _), (Fr.setCell (S := fun k => k = g) (p := ⟨g, 1, none⟩) h3H.out rfl _).drew⟩
    · have hs' : decide ((L : Int) < (c : Int)) = false := decide_eq_false (by have := hL.out; omega)
      have hs2 : ¬ L < c := by have := hL.out; omega
      have hfin : Hid (rr = .ok ((bs.drop K).take c, n + c)) := q3'.out hs
      have hKc : Hid (K + c ≤ bs.length) := by show _ ≤ _; have := hvH.out.le; omega
      have hmv : Hid (RrV R (w2.setCell ⟨g, 1, none⟩ (.int .i64 ((K + c : Nat) : Int))) g v bs (K + c)) := hvH.out.move hKc.out
      have hcast : Hid ((K : Int) + (c : Int) = ((K + c : Nat) : Int)) := (by omega : (K : Int) + (c : Int) = ((K + c : Nat) : Int))
      have hend : Hid (k + (n + c) = K + c) := by show _ = _; have := hK.out; omega
      have hcb : c ≤ 140737488355328 := by have := hKc.out; have := hbig.out; omega
      have hby2 : Hid (∀ b ∈ (bs.drop K).take c, b < 256) := fun b hb => hbyt.out b (List.mem_of_mem_drop (List.mem_of_mem_take hb))
      clear q2' q3' hL hs
      have hh : w2.ownsRow 0 5 1 v bs.length (bc bs) := hvH.out.own
      rcases hh.2 with ⟨rfl, hb0⟩ | ⟨q, cap, cur, rfl, hbg, hgg, hnc, hcm, hcs, htake⟩
      · have hK0 : K = 0 := by have := hKc.out; omega
        have hc00 : c = 0 := by have := hKc.out; omega
        subst hK0
        subst hc00
        have hcv : (convert 26 9 (.slice none 0 0)).run Tryd.prog w2.drew = .ok (.string (mkS ((bs.drop 0).take 0))) w2.drew := conv_src (.inl ⟨rfl, rfl⟩) hby2.out
        go_wp2
        go_region
        go_wp2
        go_ret2
        rw [hfin.out]
        exact ⟨rfl, ⟨_, by
          show RrV R _ g _ bs (k + (n + _))
          rw [hend.out, ← hcast.out] at *
          exact hmv.out.qt (Qt.drew _)⟩, (Fr.setCell (S := fun k => k = g) (p := ⟨g, 1, none⟩) h3H.out rfl _).drew⟩
      · have hnl : Hid (bs.length ≤ cap) := hnc
        by_cases hcK : cap = K
        · have hc00 : c = 0 := by have := hKc.out; omega
          subst hc00
          have hnK : Hid (bs.length = K) := by show _ = _; have := hKc.out; omega
          obtain ⟨N, hN⟩ : ∃ N, bs.length = N := ⟨_, rfl⟩
          rw [hN] at hnK hc0 hmv hvH hKc hnl hbig
          have hNK : N = K := hnK.out
          subst hNK
          subst hcK
          have hcv : (convert 26 9 (.slice (some ⟨q, 0, none⟩) 0 0)).run Tryd.prog w2.drew = .ok (.string (mkS ((bs.drop cap).take 0))) w2.drew := conv_src (.inr ⟨_, _, rfl, fun j u hj => by simp [bc] at hj⟩) hby2.out
          clear hh hgg hcm hcs htake hN
          go_wp2
          go_region
          go_wp2
          go_ret2
          rw [hfin.out]
          exact ⟨rfl, ⟨_, by
            show RrV R _ g _ bs (k + (n + _))
            rw [hend.out, ← hcast.out] at *
            exact hmv.out.qt (Qt.drew _)⟩, (Fr.setCell (S := fun k => k = g) (p := ⟨g, 1, none⟩) h3H.out rfl _).drew⟩
        · obtain ⟨N, hN⟩ : ∃ N, bs.length = N := ⟨_, rfl⟩
          have hcv : (convert 26 9 (.slice (some ⟨q, K, none⟩) c (cap - K))).run Tryd.prog w2.drew = .ok (.string (mkS ((bs.drop K).take c))) w2.drew := conv_src (piece_src (w := w2.drew) (fun i hi => by
            obtain ⟨q', cap', he1, he2⟩ := hvH.out.byte i hi
            injection he1 with he1
            injection he1 with he1
            injection he1 with he1
            rw [he1]; exact he2) hKc.out) hby2.out
          rw [hN] at hc0 hmv hvH hKc hnl hbig
          have hKc1 : K + c ≤ N := hKc.out
          have hKc2 : (K : Int) + (c : Int) ≤ (cap : Int) := by have := hnl.out; omega
          have hKc3 : (K : Int) ≤ (K : Int) + (c : Int) := by omega
          have hKc4 : K + c ≤ cap := by have := hnl.out; omega
          have hKn : ¬ cap = K := hcK
          clear hh hgg hcm hcs htake hN
          go_wp2
          go_region
          go_wp2
          go_ret2
          rw [hfin.out]
          exact ⟨rfl, ⟨_, by
            show RrV R _ g _ bs (k + (n + _))
            rw [hend.out, ← hcast.out] at *
            exact hmv.out.qt (Qt.drew _)⟩, (Fr.setCell (S := fun k => k = g) (p := ⟨g, 1, none⟩) h3H.out rfl _).drew⟩
end Go.Proofs.YtjckgcjcpmnhhaaDoor
