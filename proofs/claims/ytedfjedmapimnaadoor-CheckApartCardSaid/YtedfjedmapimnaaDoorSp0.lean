/-
  Steps and programs: which step is in form, the bytes of a program, how they are read. Plain.
-/
import Derived.Test.YtedfjedmapimnaaDoorPkr
import Derived.Test.YtedfjedmapimnaaDoorLow
namespace Go.Proofs.YtedfjedmapimnaaDoor.Sp
open Go.RowKit
structure St where
  op : Int
  dst : Int
  src : Int
  jump : Int
  count : Int
  n : Int
  k : Int
def hs (o : Nat) : Bool := o == 1 || o == 2 || o == 6 || o == 9
def hj (o : Nat) : Bool := o == 1 || o == 2 || o == 5 || o == 6
def hn (o : Nat) : Bool := o == 4 || o == 5 || o == 6 || o == 7 || o == 8 || o == 11
def hk (o : Nat) : Bool := o == 4
def ln (o : Nat) : Int := if o = 5 then 2 else if hn o then 1 else 0
def mn (o : Nat) : Int := if o = 5 then 5 else if o = 6 then 64 else if hn o then 16384 else 0
def ct (o : Nat) : Int := if o = 5 then 1 else if o = 6 then 2 else if o = 7 then 2 else if o = 8 then 3 else 0
def wi (x lo hi : Int) : Bool := decide (lo ≤ x) && decide (x ≤ hi)
def wo (h : Bool) (x lo hi : Int) : Bool := bif h then wi x lo hi else x == 0
def lc (c n : Int) : Int := if c = 3 then wrap64 (wrap64 (2 * n) - 1) else 1
def mc (c j n : Int) : Int := if c = 1 then j else if c = 2 then n else if c = 3 then 16384 else 262144
/-- what fits asks: of an operation's row and a step's fields -/
def fitv (b1 b2 b3 : Bool) (l m : Int) (b4 : Bool) (c : Int) (dst src jump count n k : Int) : Bool :=
  wi dst 0 262143 && (wo b1 src 0 262143 && (wo b2 jump 1 262144 && (wo b3 n l m && (wo b4 k 0 (wrap64 (n - 1)) && wi count (lc c n) (mc c jump n)))))
def fit (o : Nat) (s : St) : Bool := fitv (hs o) (hj o) (hn o) (ln o) (mn o) (hk o) (ct o) s.dst s.src s.jump s.count s.n s.k
def kn (x : Int) : Bool := decide (1 ≤ x) && decide (x ≤ 11)
def fm (s : St) : Bool := kn s.op && fit s.op.toNat s
/-- the document's words -/
def num (s : St) : Bool :=
  if s.op = 4 then wi s.n 1 16384 && wi s.k 0 (s.n - 1)
  else if s.op = 5 then wi s.n 2 5 && decide (s.count ≤ s.jump)
  else if s.op = 6 then wi s.n 1 64 && decide (s.count ≤ s.n)
  else if s.op = 7 then wi s.n 1 16384 && decide (s.count ≤ s.n)
  else if s.op = 8 then wi s.n 1 16384 && wi s.count (2 * s.n - 1) 16384
  else if s.op = 11 then wi s.n 1 16384 else true
def dgood (o : Nat) (s : St) : Bool := (wi s.src 0 262143 && (hs o || s.src == 0)) && (bif hj o then wi s.jump 1 262144 else s.jump == 0) && (hn o || s.n == 0) && (hk o || s.k == 0)
def dfm (s : St) : Bool := kn s.op && wi s.dst 0 262143 && wi s.count 1 262144 && dgood s.op.toNat s && num s
theorem wi_iff {x lo hi : Int} : wi x lo hi = true ↔ lo ≤ x ∧ x ≤ hi := by simp [wi]
theorem kn_iff {x : Int} : kn x = true ↔ 1 ≤ x ∧ x ≤ 11 := by simp [kn]
theorem w1 {n : Int} (h : 1 ≤ n ∧ n ≤ 16384) : wrap64 (n - 1) = n - 1 ∧ wrap64 (wrap64 (2 * n) - 1) = 2 * n - 1 := by unfold wrap64; omega
theorem kn_cases {x : Int} (h : kn x = true) : x = 1 ∨ x = 2 ∨ x = 3 ∨ x = 4 ∨ x = 5 ∨ x = 6 ∨ x = 7 ∨ x = 8 ∨ x = 9 ∨ x = 10 ∨ x = 11 := by
  have := kn_iff.1 h; omega
set_option maxHeartbeats 2000000 in
theorem dfm_eq (s : St) : dfm s = fm s := by
  obtain ⟨op, dst, src, jump, count, n, k⟩ := s
  unfold dfm fm
  cases hk0 : kn op with
  | false => simp
  | true =>
    have h2 : 1 ≤ n ∧ n ≤ 16384 → wrap64 (n - 1) = n - 1 ∧ wrap64 (wrap64 (2 * n) - 1) = 2 * n - 1 := w1
    rw [Bool.eq_iff_iff]
    rcases kn_cases hk0 with rfl | rfl | rfl | rfl | rfl | rfl | rfl | rfl | rfl | rfl | rfl
    all_goals simp [dgood, num, fit, fitv, hs, hj, hn, hk, ln, mn, ct, wo, wi, lc, mc]
    all_goals (generalize wrap64 (n - 1) = A at *; generalize wrap64 (wrap64 (2 * n) - 1) = B at *; omega)
/-- which fields an operation has, and the fields, in the order of the bytes -/
def hl (o : Nat) : List Bool := [true, hs o, hj o, true, hn o, hk o]
def nl (s : St) : List Int := [s.dst, s.src, s.jump, s.count, s.n, s.k]
def pr : List Bool → List Int → List Nat
  | b :: l, x :: m => (bif b then [x.toNat] else []) ++ pr l m
  | _, _ => []
def vs (l : List Nat) : List Nat := l.flatMap Pk.vi
def fl (s : St) : List Nat := s.op.toNat :: pr (hl s.op.toNat) (nl s)
def enc (s : St) : List Nat := vs (fl s)
structure Pg where
  len : Int
  cells : Int
  inn : Int
  out : Int
  steps : List St
def hd (p : Pg) : List Int := [p.len, p.cells, p.inn, p.out]
def inf (p : Pg) : Bool := (hd p).all (fun x => wi x 0 262144) && (decide (p.steps.length ≤ 65536) && p.steps.all fm)
def encP (p : Pg) : List Nat := vs ((hd p).map Int.toNat ++ [p.steps.length]) ++ p.steps.flatMap enc
/-- what is read -/
def rn (bs : List Nat) (most k : Nat) : Option (Nat × Nat) :=
  match Pk.rv 0 0 (bs.drop k) with
  | .ok (x, n) => if most < x then none else some (x, k + n)
  | .error _ => none
def rf (bs : List Nat) : List Bool → Nat → Option (List Nat × Nat)
  | [], k => some ([], k)
  | false :: l, k => (rf bs l k).map fun p => (0 :: p.1, p.2)
  | true :: l, k => (rn bs 262144 k).bind fun q => (rf bs l q.2).map fun p => (q.1 :: p.1, p.2)
def sto (o : Nat) (xs : List Nat) : St := ⟨o, xs.getD 0 0, xs.getD 1 0, xs.getD 2 0, xs.getD 3 0, xs.getD 4 0, xs.getD 5 0⟩
def rst (bs : List Nat) (k : Nat) : Option (St × Nat) :=
  (rn bs 11 k).bind fun q => (rf bs (hl q.1) q.2).bind fun p => if fm (sto q.1 p.1) = true then some (sto q.1 p.1, p.2) else none
def rss (bs : List Nat) : Nat → Nat → Option (List St × Nat)
  | 0, k => some ([], k)
  | c + 1, k => (rst bs k).bind fun q => (rss bs c q.2).map fun p => (q.1 :: p.1, p.2)
def pgo (xs : List Nat) (ss : List St) : Pg := ⟨xs.getD 0 0, xs.getD 1 0, xs.getD 2 0, xs.getD 3 0, ss⟩
def rp (bs : List Nat) : Option (Pg × Nat) :=
  (rf bs [true, true, true, true] 0).bind fun h => (rn bs 65536 h.2).bind fun c => (rss bs c.1 c.2).map fun p => (pgo h.1 p.1, p.2)
def rw_ (bs : List Nat) : Option Pg := (rp bs).bind fun p => if p.2 = bs.length then some p.1 else none
section
variable {bs : List Nat}
theorem drop_more' {bs a l : List Nat} {k m : Nat} (h : bs.drop k = a ++ l) (ha : a.length = m) : bs.drop (k + m) = l := by
  rw [← List.drop_drop, h, List.drop_left' ha]
theorem rn_back {u most k : Nat} {l : List Nat} (hu : u ≤ most) (hm : u < 18446744073709551616) (h : bs.drop k = Pk.vi u ++ l) : rn bs most k = some (u, k + (Pk.vi u).length) := by
  unfold rn
  rw [h, Pk.rv_read u u 0 0 l (Nat.le_refl _) (by decide) (.inl rfl) (by simpa using hm)]
  simp; omega
theorem rn_inv (hb : ∀ b ∈ bs, b < 256) {most k x j : Nat} (hk : k ≤ bs.length) (h : rn bs most k = some (x, j)) : bs.drop k = Pk.vi x ++ bs.drop j ∧ k < j ∧ j ≤ bs.length ∧ x ≤ most ∧ x < 18446744073709551616 := by
  unfold rn at h
  cases hr : Pk.rv 0 0 (bs.drop k) with
  | error c => rw [hr] at h; cases h
  | ok p =>
    obtain ⟨y, n⟩ := p
    rw [hr] at h
    simp only at h
    by_cases hy : most < y
    · rw [if_pos hy] at h; cases h
    · rw [if_neg hy] at h
      simp at h
      obtain ⟨rfl, rfl⟩ := h
      obtain ⟨z, m, e1, e2, e3, e4, e5, e6, e7⟩ := Pk.rv_ok (bs.drop k) 0 0 y n (by decide) (by decide) (fun b h => hb b (List.mem_of_mem_drop h)) hr
      rw [List.length_drop] at e4
      have hy : y = z := by simpa using e1
      have hn : n = m := by omega
      subst hy; subst hn
      refine ⟨?_, by omega, by omega, by omega, e7⟩
      rw [e3, ← List.drop_drop, List.take_append_drop]
/-- numbers that stand where their field is there, and are 0 where it isn't -/
def Fits : List Bool → List Nat → Prop
  | [], [] => True
  | b :: l, x :: m => (x ≤ 262144) ∧ (b = false → x = 0) ∧ Fits l m
  | _, _ => False
def prn : List Bool → List Nat → List Nat
  | b :: l, x :: m => (bif b then [x] else []) ++ prn l m
  | _, _ => []
theorem vs_app (a b : List Nat) : vs (a ++ b) = vs a ++ vs b := by simp [vs]
theorem vs_one (a : Nat) : vs [a] = Pk.vi a := by simp [vs]
theorem vs_cons (a : Nat) (l : List Nat) : vs (a :: l) = Pk.vi a ++ vs l := by simp [vs]
theorem vs_nil : vs [] = [] := rfl
theorem rf_back : ∀ (bl : List Bool) (xs : List Nat) (k : Nat) (l : List Nat), Fits bl xs → bs.drop k = vs (prn bl xs) ++ l → rf bs bl k = some (xs, k + (vs (prn bl xs)).length)
  | [], [], k, l, _, h => by simp [rf, prn, vs]
  | [], _ :: _, _, _, hf, _ => hf.elim
  | _ :: _, [], _, _, hf, _ => hf.elim
  | false :: bl, x :: xs, k, l, hf, h => by
    obtain ⟨_, h0, h2⟩ := hf
    have := h0 rfl; subst this
    simp only [prn, cond_false, List.nil_append] at h ⊢
    simp [rf, rf_back bl xs k l h2 h]
  | true :: bl, x :: xs, k, l, hf, h => by
    obtain ⟨h1, h0, h2⟩ := hf
    simp only [prn, cond_true, List.singleton_append, vs_cons, List.append_assoc] at h ⊢
    simp [rf, rn_back h1 (by omega) h, rf_back bl xs _ l h2 (drop_more' h rfl), List.length_append, Nat.add_assoc]
theorem rf_inv (hb : ∀ b ∈ bs, b < 256) : ∀ (bl : List Bool) (xs : List Nat) (k j : Nat), k ≤ bs.length → rf bs bl k = some (xs, j) → bs.drop k = vs (prn bl xs) ++ bs.drop j ∧ k ≤ j ∧ j ≤ bs.length ∧ Fits bl xs
  | [], xs, k, j, hk, h => by
    simp [rf] at h
    obtain ⟨rfl, rfl⟩ := h
    exact ⟨by simp [prn, vs], Nat.le_refl _, hk, trivial⟩
  | false :: bl, xs, k, j, hk, h => by
    simp only [rf, Option.map_eq_some_iff] at h
    obtain ⟨⟨ys, j'⟩, h1, h2⟩ := h
    simp at h2
    obtain ⟨rfl, rfl⟩ := h2
    obtain ⟨e1, e2, e3, e4⟩ := rf_inv hb bl ys k j' hk h1
    exact ⟨by simpa [prn] using e1, e2, e3, by omega, fun _ => rfl, e4⟩
  | true :: bl, xs, k, j, hk, h => by
    simp only [rf, Option.bind_eq_some_iff, Option.map_eq_some_iff] at h
    obtain ⟨⟨x, j1⟩, h0, ⟨ys, j'⟩, h1, h2⟩ := h
    simp at h2
    obtain ⟨rfl, rfl⟩ := h2
    obtain ⟨a1, a2, a3, a4, _⟩ := rn_inv hb hk h0
    obtain ⟨e1, e2, e3, e4⟩ := rf_inv hb bl ys j1 j' a3 h1
    refine ⟨?_, by omega, e3, a4, (fun h => by cases h), e4⟩
    simp only [prn, cond_true, List.singleton_append, vs_cons, List.append_assoc]
    rw [a1, e1]
theorem pr_prn : ∀ (bl : List Bool) (zs : List Int), pr bl zs = prn bl (zs.map Int.toNat)
  | [], _ => by cases ‹List Int› <;> rfl
  | _ :: _, [] => rfl
  | b :: bl, z :: zs => by simp [pr, prn, pr_prn bl zs]
theorem fm_kn {s : St} (h : fm s = true) : kn s.op = true ∧ fit s.op.toNat s = true := by simpa [fm] using h
theorem wo_iff {b : Bool} {x lo hi : Int} : wo b x lo hi = true ↔ (b = true ∧ lo ≤ x ∧ x ≤ hi) ∨ (b = false ∧ x = 0) := by
  cases b <;> simp [wo, wi]
/-- what is known of a step in form -/
theorem fm_fields {s : St} (h : fm s = true) : (1 ≤ s.op ∧ s.op ≤ 11) ∧ (0 ≤ s.dst ∧ s.dst ≤ 262143) ∧ (0 ≤ s.src ∧ s.src ≤ 262143 ∧ (hs s.op.toNat = false → s.src = 0)) ∧ (0 ≤ s.jump ∧ s.jump ≤ 262144 ∧ (hj s.op.toNat = false → s.jump = 0)) ∧ (1 ≤ s.count ∧ s.count ≤ 262144) ∧ (0 ≤ s.n ∧ s.n ≤ 16384 ∧ (hn s.op.toNat = false → s.n = 0)) ∧ (0 ≤ s.k ∧ s.k ≤ 16384 ∧ (hk s.op.toNat = false → s.k = 0)) := by
  rw [← dfm_eq] at h
  obtain ⟨op, dst, src, jump, count, n, k⟩ := s
  unfold dfm at h
  simp only [Bool.and_eq_true] at h
  obtain ⟨⟨⟨⟨h1, h2⟩, h3⟩, h4⟩, h5⟩ := h
  rcases kn_cases h1 with rfl | rfl | rfl | rfl | rfl | rfl | rfl | rfl | rfl | rfl | rfl
  all_goals (simp [dgood, num, hs, hj, hn, hk, wi] at h2 h3 h4 h5 ⊢; omega)
theorem nl_map (s : St) : (nl s).map Int.toNat = [s.dst.toNat, s.src.toNat, s.jump.toNat, s.count.toNat, s.n.toNat, s.k.toNat] := rfl
theorem fits_fm {s : St} (h : fm s = true) : Fits (hl s.op.toNat) ((nl s).map Int.toNat) := by
  obtain ⟨h1, h2, h3, h4, h5, h6, h7⟩ := fm_fields h
  rw [nl_map]
  refine ⟨by omega, (fun h => by cases h), by omega, (fun h => ?_), by omega, (fun h => ?_), by omega, (fun h => by cases h), by omega, (fun h => ?_), by omega, (fun h => ?_), trivial⟩
  · rw [h3.2.2 h]; rfl
  · rw [h4.2.2 h]; rfl
  · rw [h6.2.2 h]; rfl
  · rw [h7.2.2 h]; rfl
theorem sto_self {s : St} (h : fm s = true) : sto s.op.toNat ((nl s).map Int.toNat) = s := by
  obtain ⟨h1, h2, h3, h4, h5, h6, h7⟩ := fm_fields h
  obtain ⟨op, dst, src, jump, count, n, k⟩ := s
  simp only [sto, nl_map, List.getD_cons_zero, List.getD_cons_succ, St.mk.injEq] at *
  refine ⟨?_, ?_, ?_, ?_, ?_, ?_, ?_⟩ <;> omega
theorem rst_back {s : St} {k : Nat} {l : List Nat} (hf : fm s = true) (h : bs.drop k = enc s ++ l) : rst bs k = some (s, k + (enc s).length) := by
  have hfl := fm_fields hf
  unfold enc fl at h ⊢
  rw [vs_cons, List.append_assoc] at h
  have e1 := rn_back (most := 11) (by omega) (by omega) h
  have h2 := drop_more' h rfl
  rw [pr_prn] at h2
  have e2 := rf_back _ _ _ l (fits_fm hf) h2
  unfold rst
  rw [e1, Option.bind_some, e2, Option.bind_some]
  simp only [sto_self hf]
  rw [if_pos hf, vs_cons, List.length_append, pr_prn, Nat.add_assoc]
theorem sto_op (o : Nat) (xs : List Nat) : (sto o xs).op.toNat = o := by simp [sto]
theorem nl_sto (o : Nat) : ∀ xs : List Nat, xs.length = 6 → (nl (sto o xs)).map Int.toNat = xs
  | [a, b, c, d, e, f], _ => by simp [sto, nl]
theorem Fits.len : ∀ (bl : List Bool) (xs : List Nat), Fits bl xs → xs.length = bl.length
  | [], [], _ => rfl
  | [], _ :: _, h => h.elim
  | _ :: _, [], h => h.elim
  | _ :: bl, _ :: xs, h => by simp [Fits.len bl xs h.2.2]
theorem rst_inv (hb : ∀ b ∈ bs, b < 256) {s : St} {k j : Nat} (hk : k ≤ bs.length) (h : rst bs k = some (s, j)) : bs.drop k = enc s ++ bs.drop j ∧ k < j ∧ j ≤ bs.length ∧ fm s = true := by
  unfold rst at h
  simp only [Option.bind_eq_some_iff] at h
  obtain ⟨⟨o, j1⟩, h1, ⟨xs, j2⟩, h2, h3⟩ := h
  simp only at h2 h3
  by_cases hf : fm (sto o xs) = true
  · rw [if_pos hf] at h3
    simp at h3
    obtain ⟨rfl, rfl⟩ := h3
    obtain ⟨a1, a2, a3, a4, _⟩ := rn_inv hb hk h1
    obtain ⟨e1, e2, e3, e4⟩ := rf_inv hb _ xs j1 j2 a3 h2
    refine ⟨?_, by omega, e3, hf⟩
    unfold enc fl
    rw [sto_op, pr_prn, nl_sto o xs (e4.len), vs_cons, List.append_assoc, a1, e1]
  · rw [if_neg hf] at h3; cases h3
theorem rss_back : ∀ (ss : List St) (k : Nat) (l : List Nat), (∀ s ∈ ss, fm s = true) → bs.drop k = ss.flatMap enc ++ l → rss bs ss.length k = some (ss, k + (ss.flatMap enc).length)
  | [], k, l, _, h => by simp [rss]
  | s :: ss, k, l, hf, h => by
    rw [List.flatMap_cons, List.append_assoc] at h
    have e1 := rst_back (hf s (by simp)) h
    have e2 := rss_back ss _ l (fun s hs => hf s (by simp [hs])) (drop_more' h rfl)
    simp only [List.length_cons, rss, e1, Option.bind_some, e2, Option.map_some, List.flatMap_cons, List.length_append, Nat.add_assoc]
theorem rss_inv (hb : ∀ b ∈ bs, b < 256) : ∀ (c : Nat) (ss : List St) (k j : Nat), k ≤ bs.length → rss bs c k = some (ss, j) → bs.drop k = ss.flatMap enc ++ bs.drop j ∧ k ≤ j ∧ j ≤ bs.length ∧ (∀ s ∈ ss, fm s = true) ∧ ss.length = c
  | 0, ss, k, j, hk, h => by
    simp [rss] at h
    obtain ⟨rfl, rfl⟩ := h
    exact ⟨by simp, Nat.le_refl _, hk, (fun s h => by cases h), rfl⟩
  | c + 1, ss, k, j, hk, h => by
    simp only [rss, Option.bind_eq_some_iff, Option.map_eq_some_iff] at h
    obtain ⟨⟨s, j1⟩, h1, ⟨ys, j2⟩, h2, h3⟩ := h
    simp at h3
    obtain ⟨rfl, rfl⟩ := h3
    obtain ⟨a1, a2, a3, a4⟩ := rst_inv hb hk h1
    obtain ⟨e1, e2, e3, e4, e5⟩ := rss_inv hb c ys j1 j2 a3 h2
    refine ⟨?_, by omega, e3, ?_, by simp [e5]⟩
    · rw [List.flatMap_cons, List.append_assoc, a1, e1]
    · intro x hx
      rcases List.mem_cons.1 hx with rfl | hx
      · exact a4
      · exact e4 x hx
theorem inf_parts {p : Pg} (h : inf p = true) : (∀ x ∈ hd p, 0 ≤ x ∧ x ≤ 262144) ∧ p.steps.length ≤ 65536 ∧ ∀ s ∈ p.steps, fm s = true := by
  simp only [inf, Bool.and_eq_true, List.all_eq_true, decide_eq_true_eq, wi_iff] at h
  exact ⟨h.1, h.2.1, h.2.2⟩
theorem rp_back {p : Pg} {l : List Nat} (hi : inf p = true) (h : bs = encP p ++ l) : rp bs = some (p, (encP p).length) := by
  obtain ⟨h1, h2, h3⟩ := inf_parts hi
  obtain ⟨a, b, c, d, ss⟩ := p
  simp only [hd, List.mem_cons, List.not_mem_nil, or_false, forall_eq_or_imp, forall_eq] at h1
  obtain ⟨ha, hb, hc, hd'⟩ := h1
  unfold encP at h ⊢
  rw [vs_app, vs_one, List.append_assoc, List.append_assoc] at h
  have hp : vs ((hd ⟨a, b, c, d, ss⟩).map Int.toNat) = vs (prn [true, true, true, true] [a.toNat, b.toNat, c.toNat, d.toNat]) := rfl
  rw [hp] at h
  have h0 : bs.drop 0 = vs (prn [true, true, true, true] [a.toNat, b.toNat, c.toNat, d.toNat]) ++ (Pk.vi ss.length ++ (ss.flatMap enc ++ l)) := h
  have e1 := rf_back [true, true, true, true] [a.toNat, b.toNat, c.toNat, d.toNat] 0 _ ⟨by omega, (fun h => by cases h), by omega, (fun h => by cases h), by omega, (fun h => by cases h), by omega, (fun h => by cases h), trivial⟩ h0
  have h4 := drop_more' h0 rfl
  have e2 := rn_back (most := 65536) h2 (Nat.lt_of_le_of_lt h2 (by decide)) h4
  have e3 := rss_back ss _ l h3 (drop_more' h4 rfl)
  unfold rp
  rw [e1, Option.bind_some, e2, Option.bind_some, e3, Option.map_some]
  simp only [pgo, List.getD_cons_zero, List.getD_cons_succ, vs_app, vs_one, List.length_append, hp]
  refine congrArg some (Prod.ext ?_ (by simp))
  simp only [Pg.mk.injEq, and_true]
  exact ⟨by omega, by omega, by omega, by omega⟩
theorem rp_inv (hb : ∀ b ∈ bs, b < 256) {p : Pg} {j : Nat} (h : rp bs = some (p, j)) : bs = encP p ++ bs.drop j ∧ j ≤ bs.length ∧ inf p = true := by
  unfold rp at h
  simp only [Option.bind_eq_some_iff, Option.map_eq_some_iff] at h
  obtain ⟨⟨xs, j1⟩, h1, ⟨c, j2⟩, h2, ⟨ss, j3⟩, h3, h4⟩ := h
  simp at h4
  obtain ⟨rfl, rfl⟩ := h4
  obtain ⟨a1, a2, a3, a4⟩ := rf_inv hb _ xs 0 j1 (Nat.zero_le _) h1
  obtain ⟨b1, b2, b3, b4, _⟩ := rn_inv hb a3 h2
  obtain ⟨c1, c2, c3, c4, c5⟩ := rss_inv hb c ss j2 j3 b3 h3
  have hl : xs.length = 4 := a4.len
  match xs, hl, a4, a1 with
  | [a, b, c', d], _, a4, a1 =>
    obtain ⟨q1, _, q2, _, q3, _, q4, _, _⟩ := a4
    have hp : vs ((hd (pgo [a, b, c', d] ss)).map Int.toNat) = vs (prn [true, true, true, true] [a, b, c', d]) := by simp [hd, pgo, prn]
    refine ⟨?_, c3, ?_⟩
    · unfold encP
      rw [vs_app, vs_one, hp, List.append_assoc, List.append_assoc]
      have e5 : (pgo [a, b, c', d] ss).steps = ss := rfl
      rw [e5, c5, ← c1, ← b1]
      simpa using a1
    · simp only [inf, Bool.and_eq_true, List.all_eq_true, decide_eq_true_eq, wi_iff]
      refine ⟨?_, ?_, c4⟩
      · simp only [hd, pgo, List.mem_cons, List.not_mem_nil, or_false, forall_eq_or_imp, forall_eq, List.getD_cons_zero, List.getD_cons_succ]
        omega
      · show ss.length ≤ 65536
        omega
theorem rw_back {p : Pg} (hi : inf p = true) : rw_ (encP p) = some p := by
  unfold rw_
  rw [rp_back (l := []) hi (by simp), Option.bind_some, if_pos rfl]
theorem rw_inv (hb : ∀ b ∈ bs, b < 256) {p : Pg} (h : rw_ bs = some p) : bs = encP p ∧ inf p = true := by
  unfold rw_ at h
  simp only [Option.bind_eq_some_iff] at h
  obtain ⟨⟨q, j⟩, h1, h2⟩ := h
  simp only at h2
  by_cases hj : j = bs.length
  · rw [if_pos hj] at h2
    cases h2
    obtain ⟨e1, e2, e3⟩ := rp_inv hb h1
    refine ⟨?_, e3⟩
    rw [hj] at e1
    simpa using e1
  · rw [if_neg hj] at h2; cases h2
/-- nothing longer is a program's -/
theorem rw_long {p : Pg} {l : List Nat} (hi : inf p = true) (hl : l ≠ []) : rw_ (encP p ++ l) = none := by
  unfold rw_
  rw [rp_back (l := l) hi rfl, Option.bind_some, if_neg]
  intro h
  rw [List.length_append] at h
  exact hl (List.eq_nil_of_length_eq_zero (by simp only at h; omega))
/-- no shorter beginning is -/
theorem rw_short (p : Pg) (hb : ∀ b ∈ encP p, b < 256) {m : Nat} (hi : inf p = true) (hm : m < (encP p).length) : rw_ ((encP p).take m) = none := by
  cases h : rw_ ((encP p).take m) with
  | none => rfl
  | some q =>
    obtain ⟨e1, e2⟩ := rw_inv (fun b hh => hb b (List.mem_of_mem_take hh)) h
    have e3 : encP p = encP q ++ (encP p).drop m := by rw [← e1, List.take_append_drop]
    have e4 := rp_back (bs := encP p) (l := (encP p).drop m) e2 e3
    have e5 := rp_back (bs := encP p) (l := []) hi (by simp)
    rw [e4] at e5
    simp at e5
    have e6 := congrArg List.length e1
    rw [List.length_take] at e6
    omega
end
theorem enc_byte (l : List Nat) : ∀ b ∈ vs l, b < 256 := by
  intro b hb
  simp only [vs, List.mem_flatMap] at hb
  obtain ⟨x, _, hx⟩ := hb
  exact Pk.vi_byte x x (Nat.le_refl _) b hx
theorem encP_byte (p : Pg) : ∀ b ∈ encP p, b < 256 := by
  intro b hb
  unfold encP at hb
  rcases List.mem_append.1 hb with h | h
  · exact enc_byte _ b h
  · simp only [List.mem_flatMap] at h
    obtain ⟨s, _, hs⟩ := h
    exact enc_byte _ b hs
theorem encP_ne (p : Pg) : encP p ≠ [] := by
  intro h
  have := congrArg List.length h
  unfold encP hd at this
  simp only [List.map_cons, List.cons_append, vs_cons, List.length_append, List.length_nil] at this
  have h2 := Pk.vi_ne p.len.toNat
  have h3 : (Pk.vi p.len.toNat).length ≠ 0 := fun e => h2 (List.eq_nil_of_length_eq_zero e)
  omega
end Go.Proofs.YtedfjedmapimnaaDoor.Sp
