/-
  Listings there and back, and cut off. Plain.
-/
import Derived.Test.YtebknahackkhnaaDoorLs7
import Derived.Test.YtebknahackkhnaaDoorSlv
namespace Go.Proofs.YtebknahackkhnaaDoor
open Go
theorem nmb_free (o : Nat) (ho : 1 ≤ o ∧ o < 12) : ∀ c ∈ (nmb o).data.toList, c ≠ 32 ∧ c ≠ 10 := by
  have key : ∀ o : Fin 12, ∀ c ∈ (nmb o.val).data.toList, c ≠ 32 ∧ c ≠ 10 := by decide +kernel
  exact key ⟨o, ho.2⟩
theorem encf_free : ∀ (ls : List UInt8) (xs : List Int), (∀ c ∈ ls, c ≠ 10) → (10 : UInt8) ∉ Li.encf ls xs
  | [], _, _ => by simp [Li.encf]
  | c :: ls, [], _ => by simp [Li.encf]
  | c :: ls, x :: xs, h => by
    have h1 := encf_free ls xs fun d hd => h d (List.mem_cons_of_mem _ hd)
    have h2 := h c List.mem_cons_self
    rw [Li.encf, List.mem_append]
    rintro (h3 | h3)
    · by_cases hx : x = 0
      · rw [if_pos hx] at h3; cases h3
      · rw [if_neg hx, List.mem_cons, List.mem_cons] at h3
        rcases h3 with h3 | h3 | h3
        · exact absurd h3 (by decide)
        · exact h2 h3.symm
        · exact (Li.it_sg x _ h3).2 rfl
    · exact h1 h3
theorem fm_op {s : Sp.St} (h : Sp.fm s = true) : 1 ≤ s.op.toNat ∧ s.op.toNat < 12 ∧ ((s.op.toNat : Nat) : Int) = s.op := by
  obtain ⟨h1, _⟩ := Sp.fm_fields h
  omega
theorem lin_free {s : Sp.St} (h : Sp.fm s = true) : (10 : UInt8) ∉ lin s := by
  unfold lin
  rw [List.mem_append]
  rintro (h1 | h1)
  · exact (nmb_free _ ⟨(fm_op h).1, (fm_op h).2.1⟩ _ h1).2 rfl
  · exact encf_free ltr _ (by decide) h1
theorem stl_lin {s : Sp.St} (h : Sp.fm s = true) : stl (lin s) = some s := by
  obtain ⟨o1, o2, o3⟩ := fm_op h
  have hb : Li.Bg 32 (Li.encf ltr (Sp.nl s)) := by
    rcases Li.encf_bg ltr (Sp.nl s) with e | ⟨d, r, _, e⟩
    · exact .inl e
    · exact .inr ⟨_, e⟩
  obtain ⟨e1, e2⟩ := Li.wd_app (c := 32) (fun h1 => (nmb_free _ ⟨o1, o2⟩ _ h1).1 rfl) hb
  unfold stl lin
  rw [e1, e2, opn_some ⟨o1, o2⟩ rfl, Option.bind_some, Li.pf_back ltr (Sp.nl s) (by decide) rfl (nl_all h)]
  obtain ⟨op, dst, src, jump, count, n, k⟩ := s
  simp [Li.whole, stZ, Sp.nl, o3]
theorem lins_cons (s : Sp.St) (ss : List Sp.St) : lins (s :: ss) = lin s ++ 10 :: lins ss := by simp [lins]
/-- lines of steps ahead of anything -/
theorem rls_pre : ∀ (ss : List Sp.St) (r : List UInt8) (k : Nat), (∀ s ∈ ss, Sp.fm s = true) → rls (Li.sp 10 (lins ss ++ r)) k = (rls (Li.sp 10 r) (k + ss.length)).map (ss ++ ·)
  | [], r, k, _ => by
    simp only [lins, List.flatMap_nil, List.nil_append, List.length_nil, Nat.add_zero]
    cases rls (Li.sp 10 r) k <;> rfl
  | s :: ss, r, k, h => by
    have hs := h s List.mem_cons_self
    obtain ⟨e1, e2⟩ := Li.wd_app (c := 10) (w := lin s) (m := 10 :: (lins ss ++ r)) (lin_free hs) (.inr ⟨_, rfl⟩)
    rw [lins_cons, List.append_assoc, List.cons_append, sp_cut, e1, e2, if_neg (by simp), List.drop_succ_cons, List.drop_zero, rls_more, stl_lin hs]
    simp only
    rw [if_pos hs, rls_pre ss r (k + 1) fun x hx => h x (List.mem_cons_of_mem _ hx), List.length_cons, show k + 1 + ss.length = k + (ss.length + 1) by omega]
    cases rls (Li.sp 10 r) (k + (ss.length + 1)) <;> rfl
theorem enh_free (xs : List Int) : (10 : UInt8) ∉ Li.enh xs := by
  unfold Li.enh
  rw [List.mem_flatMap]
  rintro ⟨x, _, h⟩
  rw [List.mem_cons] at h
  rcases h with h | h
  · exact absurd h (by decide)
  · exact (Li.it_sg x _ h).2 rfl
theorem hdK_free (p : Sp.Pg) (k : Nat) : (10 : UInt8) ∉ hdK p k := by
  unfold hdK
  rw [List.mem_append]
  rintro (h | h)
  · exact absurd h (by decide)
  · exact enh_free _ h
theorem hdl_hdK {p : Sp.Pg} (h : Pin p) : hdl (hdK p 4) = some (Sp.hd p) := by
  have e : hdK p 4 = tim6 ++ Li.enh (Sp.hd p) := rfl
  obtain ⟨e1, e2⟩ := Li.wd_app (c := 32) (w := tim6) (m := Li.enh (Sp.hd p)) (by decide) (Li.enh_bg _)
  unfold hdl
  rw [e, e1, e2, if_pos rfl]
  have h9 := Li.ph_back (Sp.hd p) h
  have e4 : (Sp.hd p).length = 4 := rfl
  rw [e4] at h9
  rw [h9]; rfl
/-- what is read of a first line, steps and what follows -/
theorem rdt_pre {p : Sp.Pg} (hp : Pin p) (ss : List Sp.St) (hs : ∀ s ∈ ss, Sp.fm s = true) (r : List UInt8) : rdt (hdK p 4 ++ [10] ++ lins ss ++ r) = (rls (Li.sp 10 r) (2 + ss.length)).map fun zs => pgw (Sp.hd p) (ss ++ zs) := by
  obtain ⟨e1, e2⟩ := Li.wd_app (c := 10) (w := hdK p 4) (m := 10 :: (lins ss ++ r)) (hdK_free p 4) (.inr ⟨_, rfl⟩)
  unfold rdt
  rw [show hdK p 4 ++ [10] ++ lins ss ++ r = hdK p 4 ++ 10 :: (lins ss ++ r) by simp, e1, e2, hdl_hdK hp]
  simp only
  rw [if_neg (by simp), List.drop_succ_cons, List.drop_zero, rls_pre ss r 2 hs]
  cases rls (Li.sp 10 r) (2 + ss.length) <;> rfl
theorem pgw_hd (p : Sp.Pg) : pgw (Sp.hd p) p.steps = p := rfl
/-- a program comes back -/
theorem rdt_ltx {p : Sp.Pg} (hp : Pin p) (hs : ∀ s ∈ p.steps, Sp.fm s = true) : rdt (ltx p) = .ok p := by
  have h9 := rdt_pre hp p.steps hs []
  rw [List.append_nil] at h9
  unfold ltx
  rw [h9]
  simp [Li.sp, rls, Except.map, pgw_hd]
/-- lines cut off -/
theorem lins_cut : ∀ (ss : List Sp.St) (j : Nat), (∀ s ∈ ss, Sp.fm s = true) → ∃ m q, m ≤ ss.length ∧ (lins ss).take j = lins (ss.take m) ++ q ∧ (10 : UInt8) ∉ q
  | [], j, _ => ⟨0, [], Nat.le_refl _, by simp [lins], by simp⟩
  | s :: ss, j, h => by
    have hs := h s List.mem_cons_self
    rw [lins_cons]
    by_cases hj : j ≤ (lin s).length
    · refine ⟨0, (lin s).take j, Nat.zero_le _, ?_, fun h1 => lin_free hs (List.mem_of_mem_take h1)⟩
      rw [List.take_append_of_le_length hj]
      simp [lins]
    · obtain ⟨m, q, h1, h2, h3⟩ := lins_cut ss (j - (lin s).length - 1) fun x hx => h x (List.mem_cons_of_mem _ hx)
      refine ⟨m + 1, q, by simpa using h1, ?_, h3⟩
      rw [List.take_append, List.take_of_length_le (by omega), show j - (lin s).length = (j - (lin s).length - 1) + 1 by omega, List.take_succ_cons, h2, List.take_succ_cons, lins_cons]
      simp
theorem cnt0 {l : List UInt8} (h : (10 : UInt8) ∉ l) : l.count 10 = 0 := List.count_eq_zero.2 h
theorem lins_cnt : ∀ (ss : List Sp.St), (∀ s ∈ ss, Sp.fm s = true) → (lins ss).count 10 = ss.length
  | [], _ => rfl
  | s :: ss, h => by
    rw [lins_cons, List.count_append, cnt0 (lin_free (h s List.mem_cons_self)), List.count_cons_self, lins_cnt ss fun x hx => h x (List.mem_cons_of_mem _ hx)]
    simp
theorem last_free {l : List UInt8} (h : (10 : UInt8) ∉ l) : l.getLast? ≠ some 10 := fun e => h (List.mem_of_getLast? e)
theorem lins_last (p : Sp.Pg) (ss : List Sp.St) : (hdK p 4 ++ [10] ++ lins ss).getLast? = some 10 := by
  rcases List.eq_nil_or_concat ss with rfl | ⟨zs, s, rfl⟩
  · simp [lins]
  · rw [List.concat_eq_append, lins_snoc]
    simp only [← List.append_assoc]
    exact List.getLast?_concat
/-- a listing cut off -/
theorem cut_main {p : Sp.Pg} (hp : Pin p) (hs : ∀ s ∈ p.steps, Sp.fm s = true) (k : Nat) (u : List UInt8) (hu : u = (ltx p).take k) :
    (u.getLast? = some 10 ∧ ∃ m, m ≤ p.steps.length ∧ u.count 10 = m + 1 ∧ rdt u = .ok (pgw (Sp.hd p) (p.steps.take m))) ∨ (u.getLast? ≠ some 10 ∧ rdt u = .error (u.count 10 + 1, false)) := by
  by_cases hk : k ≤ (hdK p 4).length
  · right
    have e : u = (hdK p 4).take k := by
      rw [hu]; unfold ltx
      rw [List.append_assoc, List.take_append_of_le_length hk]
    have hf : (10 : UInt8) ∉ u := by rw [e]; exact fun h1 => hdK_free p 4 (List.mem_of_mem_take h1)
    refine ⟨last_free hf, ?_⟩
    have hr : Li.rs 10 u = [] := by
      have h9 := (Li.wd_app (c := 10) (w := u) (m := []) hf (.inl rfl)).2
      rw [List.append_nil] at h9; exact h9
    rw [cnt0 hf]
    unfold rdt
    cases hdl (Li.wd 10 u) with
    | none => rfl
    | some xs => simp only; rw [if_pos hr]
  · obtain ⟨m, q, h1, h2, h3⟩ := lins_cut p.steps (k - (hdK p 4).length - 1) hs
    have e : u = hdK p 4 ++ [10] ++ lins (p.steps.take m) ++ q := by
      rw [hu]; unfold ltx
      rw [List.append_assoc, List.take_append, List.take_of_length_le (by omega), show k - (hdK p 4).length = (k - (hdK p 4).length - 1) + 1 by omega, List.singleton_append, List.take_succ_cons, h2]
      simp
    have hst : ∀ s ∈ p.steps.take m, Sp.fm s = true := fun s h => hs s (List.mem_of_mem_take h)
    have hlm : (p.steps.take m).length = m := by rw [List.length_take]; omega
    have hc : u.count 10 = m + 1 := by
      rw [e, List.count_append, List.count_append, List.count_append, cnt0 (hdK_free p 4), lins_cnt _ hst, cnt0 h3, hlm]
      simp; omega
    have hr := rdt_pre hp (p.steps.take m) hst q
    rw [← e, hlm] at hr
    by_cases hq : q = []
    · left
      refine ⟨by rw [e, hq, List.append_nil]; exact lins_last p _, m, h1, hc, ?_⟩
      rw [hr, hq]
      simp [Li.sp, rls, Except.map]
    · right
      refine ⟨?_, ?_⟩
      · rw [e, List.getLast?_append]
        cases hg : q.getLast? with
        | none => exact absurd (List.getLast?_eq_none_iff.1 hg) hq
        | some b =>
          simp only [Option.some_or]
          intro h9
          exact last_free h3 (by rw [hg]; exact h9)
      · rw [hr, hc]
        have hsq : Li.sp 10 q = [q] := by
          have h9 := Li.sp_join (c := 10) q [] h3 (by simp)
          simpa [Li.jn] using h9
        rw [hsq, rls, if_neg hq]
        simp only [Except.map]
        rw [show 2 + m = m + 1 + 1 by omega]
end Go.Proofs.YtebknahackkhnaaDoor
