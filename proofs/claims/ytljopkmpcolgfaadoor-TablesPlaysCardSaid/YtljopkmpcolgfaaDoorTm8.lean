/-
  Sets of lengths as rising lists, and maps over them (plain).
-/
import Derived.Maps.OwnSet
import Derived.Lib.SlKeysI
namespace Go.Proofs.YtljopkmpcolgfaaDoor
open Go.Maps

/-- n among the rising numbers -/
def ins (n : Nat) : List Nat → List Nat
  | [] => [n]
  | x :: r => if n < x then n :: x :: r else if n = x then x :: r else x :: ins n r
def del (n : Nat) (ks : List Nat) : List Nat := ks.filter fun x => x != n
theorem mem_ins {n x : Nat} : ∀ {ks : List Nat}, x ∈ ins n ks ↔ x = n ∨ x ∈ ks
  | [] => by simp [ins]
  | y :: r => by
    unfold ins
    split
    · simp
    · split
      · rename_i h1 h2; subst h2; simp
      · simp only [List.mem_cons, mem_ins (ks := r)]
        constructor
        · rintro (h | h | h) <;> simp [h]
        · rintro (h | h | h) <;> simp [h]
theorem mem_del {n x : Nat} {ks : List Nat} : x ∈ del n ks ↔ x ∈ ks ∧ x ≠ n := by simp [del]
theorem ins_srt {n : Nat} : ∀ {ks : List Nat}, ks.Pairwise (· < ·) → (ins n ks).Pairwise (· < ·)
  | [], _ => by simp [ins]
  | y :: r, h => by
    obtain ⟨h1, h2⟩ := List.pairwise_cons.1 h
    unfold ins
    split
    · rename_i h3
      refine List.pairwise_cons.2 ⟨fun z hz => ?_, h⟩
      rcases List.mem_cons.1 hz with rfl | hz
      · exact h3
      · exact Nat.lt_trans h3 (h1 z hz)
    · split
      · exact h
      · rename_i h3 h4
        refine List.pairwise_cons.2 ⟨fun z hz => ?_, ins_srt h2⟩
        rcases mem_ins.1 hz with rfl | hz
        · omega
        · exact h1 z hz
theorem del_srt {n : Nat} {ks : List Nat} (h : ks.Pairwise (· < ·)) : (del n ks).Pairwise (· < ·) := h.filter _
theorem ins_in {n : Nat} : ∀ {ks : List Nat}, ks.Pairwise (· < ·) → n ∈ ks → ins n ks = ks
  | [], _, h => by simp at h
  | y :: r, h, hn => by
    obtain ⟨h1, h2⟩ := List.pairwise_cons.1 h
    unfold ins
    rcases List.mem_cons.1 hn with rfl | hn
    · simp
    · have := h1 n hn
      rw [if_neg (by omega), if_neg (by omega), ins_in h2 hn]
theorem ins_len {n : Nat} : ∀ {ks : List Nat}, n ∉ ks → (ins n ks).length = ks.length + 1
  | [], _ => rfl
  | y :: r, h => by
    have h1 : n ≠ y := fun e => h (by simp [e])
    have h2 : n ∉ r := fun e => h (by simp [e])
    unfold ins
    split
    · simp
    · simp [ins_len h2]
theorem del_out {n : Nat} {ks : List Nat} (h : n ∉ ks) : del n ks = ks := by
  unfold del
  rw [List.filter_eq_self]
  intro x hx
  have : x ≠ n := fun e => h (e ▸ hx)
  simp [this]
theorem del_len {n : Nat} : ∀ {ks : List Nat}, ks.Pairwise (· < ·) → n ∈ ks → (del n ks).length + 1 = ks.length
  | [], _, h => by simp at h
  | y :: r, h, hn => by
    obtain ⟨h1, h2⟩ := List.pairwise_cons.1 h
    by_cases e : y = n
    · subst e
      have : y ∉ r := fun hy => Nat.lt_irrefl _ (h1 y hy)
      have := del_out this
      unfold del at this ⊢
      simp [this]
    · have hn' : n ∈ r := by
        rcases List.mem_cons.1 hn with h | h
        · exact absurd h.symm e
        · exact h
      have := del_len h2 hn'
      unfold del at this ⊢
      simp [e, this]
theorem srt_few : ∀ (ks : List Nat) (a b : Nat), ks.Pairwise (· < ·) → (∀ x ∈ ks, a ≤ x ∧ x ≤ b) → ks.length ≤ b + 1 - a
  | [], _, _, _, _ => Nat.zero_le _
  | y :: r, a, b, h, hb => by
    obtain ⟨h1, h2⟩ := List.pairwise_cons.1 h
    have hy := hb y (by simp)
    have := srt_few r (y + 1) b h2 (fun x hx => ⟨h1 x hx, (hb x (by simp [hx])).2⟩)
    simp only [List.length_cons]
    omega

/-- a kept value reads as itself -/
def kv8 (v : Value) : Option (DataW Value × List MemPlace) := some (.held v, [])
/-- the map has just the keys ks, and at x the slice of x roots at block g x -/
structure KD (D : DataW Value) (ks : List Nat) (g : Nat → Nat) : Prop where
  has : ∀ x : Int, has D (.int .i64 x) = true ↔ ∃ y ∈ ks, x = (y : Int)
  at_ : ∀ x ∈ ks, ∀ z, D.atKey (.int .i64 (x : Int)) z = .held (.slice (some ⟨g x, 0, none⟩) x x)
theorem has_ks {D : DataW Value} {ks : List Nat} {g : Nat → Nat} (h : KD D ks g) (n : Nat) : Maps.has D (.int .i64 (n : Int)) = decide (n ∈ ks) := by
  by_cases c : n ∈ ks
  · rw [decide_eq_true c]; exact (h.has n).2 ⟨n, c, rfl⟩
  · rw [decide_eq_false c]
    cases e : Maps.has D (.int .i64 (n : Int))
    · rfl
    · obtain ⟨y, hy, hn⟩ := (h.has n).1 e
      have : n = y := by omega
      exact absurd (this ▸ hy) c
theorem has_no {D : DataW Value} {ks : List Nat} {g : Nat → Nat} (h : KD D ks g) (n : Int) (hn : ∀ y ∈ ks, n ≠ (y : Int)) : Maps.has D (.int .i64 n) = false := by
  cases e : Maps.has D (.int .i64 n)
  · rfl
  · obtain ⟨y, hy, hn'⟩ := (h.has n).1 e
    exact absurd hn' (hn y hy)
theorem KD.empty (g : Nat → Nat) : KD (.map []) [] g := ⟨fun x => by simp [Maps.has], fun x hx => by simp at hx⟩
theorem KD.put {D : DataW Value} {ks : List Nat} {g : Nat → Nat} (h : KD D ks g) (hD : IsMap D) (n G : Nat) : KD (D.put (.int .i64 (n : Int)) (.held (.slice (some ⟨G, 0, none⟩) n n))) (ins n ks) (fun x => if x = n then G else g x) := by
  have hk : WideAt.IsKeyLit (.int .i64 (n : Int)) := trivial
  refine ⟨fun x => ?_, fun x hx z => ?_⟩
  · by_cases c : x = (n : Int)
    · subst c
      rw [has_put_same hD hk]
      exact ⟨fun _ => ⟨n, mem_ins.2 (.inl rfl), rfl⟩, fun _ => rfl⟩
    · rw [has_put_other (fun e => c (by cases e; rfl)), h.has]
      constructor
      · rintro ⟨y, hy, e⟩; exact ⟨y, mem_ins.2 (.inr hy), e⟩
      · rintro ⟨y, hy, e⟩
        rcases mem_ins.1 hy with rfl | hy
        · exact absurd e c
        · exact ⟨y, hy, e⟩
  · by_cases c : x = n
    · subst c
      rw [atKey_put_same hD hk]; simp
    · rw [atKey_put_other (fun e => c (by cases e; rfl)), if_neg c]
      rcases mem_ins.1 hx with e | hx
      · exact absurd e c
      · exact h.at_ x hx z
theorem KD.del {D : DataW Value} {ks : List Nat} {g : Nat → Nat} (h : KD D ks g) (n : Nat) : KD (D.del (.int .i64 (n : Int))) (del n ks) g := by
  refine ⟨fun x => ?_, fun x hx z => ?_⟩
  · by_cases c : x = (n : Int)
    · subst c
      rw [has_del_same]
      refine ⟨fun e => (by cases e), ?_⟩
      rintro ⟨y, hy, e⟩
      have : n = y := by omega
      exact absurd this.symm (mem_del.1 hy).2
    · rw [has_del_other (fun e => c (by cases e; rfl)), h.has]
      constructor
      · rintro ⟨y, hy, e⟩; exact ⟨y, mem_del.2 ⟨hy, fun e' => c (by rw [e, e'])⟩, e⟩
      · rintro ⟨y, hy, e⟩; exact ⟨y, (mem_del.1 hy).1, e⟩
  · obtain ⟨h1, h2⟩ := mem_del.1 hx
    rw [atKey_del_other (fun e => h2 (by cases e; rfl))]
    exact h.at_ x h1 z
theorem KD.delNo {D : DataW Value} {ks : List Nat} {g : Nat → Nat} (h : KD D ks g) (n : Int) (hn : ∀ y ∈ ks, n ≠ (y : Int)) : KD (D.del (.int .i64 n)) ks g := by
  rw [del_of_not_has (has_no h n hn)]; exact h

section
variable {P : Program} {k : TypeId} {w : World} {b m : Nat} {D : DataW Value} {ks : List Nat} {g : Nat → Nat}
theorem kd_perm (hk : P.underlying k = some (.int .i64)) (ho : w.ownsMap P k kv8 b m D) (h : KD D ks g) (hs : ks.Pairwise (· < ·)) : (ks.map fun x : Nat => (x : Int)).Perm (intKeys D) := by
  obtain ⟨es, hD, hpw, _⟩ := ho.entries (int_keyed hk)
  obtain ⟨es', hD', hko⟩ := ho.keysOf
  obtain rfl : es = es' := by rw [hD] at hD'; simpa using hD'
  subst hD
  refine perm_intKeys hpw (fun p hp => by obtain ⟨v, hv⟩ := hko p hp; obtain ⟨x, _, hx, _⟩ := Maps.keyOf_i64 hk hv; exact ⟨x, hx⟩) ?_ (fun x => ?_)
  · refine List.pairwise_map.2 (hs.imp fun {a c} hac e => ?_)
    omega
  · rw [h.has x]
    simp only [List.mem_map]
    constructor
    · rintro ⟨a, ha, rfl⟩; exact ⟨a, ha, rfl⟩
    · rintro ⟨a, ha, rfl⟩; exact ⟨a, ha, rfl⟩
theorem kd_size (hk : P.underlying k = some (.int .i64)) (ho : w.ownsMap P k kv8 b m D) (h : KD D ks g) (hs : ks.Pairwise (· < ·)) : Maps.size D = ks.length := by
  have h1 := (kd_perm hk ho h hs).length_eq
  obtain ⟨es, hD, _⟩ := ho.entries (int_keyed hk)
  subst hD
  simp [intKeys, Maps.size] at h1 ⊢
  omega
theorem kd_sorted (hk : P.underlying k = some (.int .i64)) (ho : w.ownsMap P k kv8 b m D) (h : KD D ks g) (hs : ks.Pairwise (· < ·)) {ss : List Int} (hp : ss.Perm (intKeys D)) : ss.mergeSort (fun x y => decide (x ≤ y)) = ks.map fun x : Nat => (x : Int) := by
  have h1 : ss.Perm (ks.map fun x : Nat => (x : Int)) := hp.trans (kd_perm hk ho h hs).symm
  have h2 := mergeSort_of_perm_i h1
  refine h2.trans (List.mergeSort_of_pairwise ?_)
  refine List.pairwise_map.2 (hs.imp fun {a c} hac => ?_)
  simp only [leI, decide_eq_true_eq]
  omega
theorem own_small (ho : w.ownsMap P k kv8 b m D) {m' : Nat} (h : Maps.size D ≤ m') : w.ownsMap P k kv8 b m' D := by
  obtain ⟨es, clock, h1, h2, h3, h4⟩ := ho
  refine ⟨es, clock, h1, h2, ?_, h4⟩
  rw [h4] at h
  simpa [Maps.size, length_sorted] using h
end
end Go.Proofs.YtljopkmpcolgfaaDoor
namespace Go.Proofs.YtljopkmpcolgfaaDoor
/-- the last place of n among the first j, or -1 -/
def fnd (th : List Nat) (n : Nat) : Nat → Int
  | 0 => -1
  | j + 1 => if th.getD j 0 = n then (j : Int) else fnd th n j
theorem fnd_hit {th : List Nat} {n j : Nat} (h : th.getD j 0 = n) : (j : Int) = fnd th n (j + 1) := by
  show (j : Int) = if th.getD j 0 = n then (j : Int) else fnd th n j
  rw [if_pos h]
theorem fnd_miss {th : List Nat} {n j : Nat} (h : ¬ th.getD j 0 = n) : fnd th n j = fnd th n (j + 1) := by
  show fnd th n j = if th.getD j 0 = n then (j : Int) else fnd th n j
  rw [if_neg h]
theorem fnd_lt (th : List Nat) (n : Nat) : ∀ j, -1 ≤ fnd th n j ∧ fnd th n j < (j : Int)
  | 0 => ⟨by simp [fnd], by simp [fnd]⟩
  | j + 1 => by
    have := fnd_lt th n j
    unfold fnd
    split
    · omega
    · omega
theorem fnd_out {th : List Nat} {n : Nat} (h : n ∉ th) : ∀ j, j ≤ th.length → fnd th n j = -1
  | 0, _ => rfl
  | j + 1, hj => by
    unfold fnd
    have hl : j < th.length := by omega
    have : th.getD j 0 = th[j] := by simp [List.getD, hl]
    rw [if_neg (by rw [this]; exact fun e => h (e ▸ List.getElem_mem hl)), fnd_out h j (by omega)]
theorem fnd_in {th : List Nat} {n : Nat} (h : n ∈ th) : ∃ k, k < th.length ∧ fnd th n th.length = (k : Int) ∧ th.getD k 0 = n := by
  have key : ∀ j, j ≤ th.length → (∃ k, k < j ∧ th.getD k 0 = n) → ∃ k, k < j ∧ fnd th n j = (k : Int) ∧ th.getD k 0 = n := by
    intro j
    induction j with
    | zero => rintro _ ⟨k, hk, _⟩; omega
    | succ j ih =>
      rintro hj ⟨k, hk, e⟩
      unfold fnd
      by_cases c : th.getD j 0 = n
      · exact ⟨j, by omega, by rw [if_pos c], c⟩
      · rw [if_neg c]
        have hk' : k < j := by
          rcases Nat.lt_or_ge k j with h | h
          · exact h
          · exact absurd (by rw [show j = k by omega]; exact e) c
        obtain ⟨k2, h1, h2, h3⟩ := ih (by omega) ⟨k, hk', e⟩
        exact ⟨k2, by omega, h2, h3⟩
  obtain ⟨k, hk, e⟩ := List.getElem_of_mem h
  exact key th.length (Nat.le_refl _) ⟨k, hk, by simp [List.getD, hk, e]⟩
/-- without the place k -/
def cutk (k : Nat) (th : List Nat) : List Nat := th.take k ++ th.drop (k + 1)
theorem cutk_split {th : List Nat} {k : Nat} (h : k < th.length) : th = th.take k ++ th.getD k 0 :: th.drop (k + 1) := by
  have : th.getD k 0 = th[k] := by simp [List.getD, h]
  rw [this, ← List.drop_eq_getElem_cons h, List.take_append_drop]
theorem cutk_nodup {th : List Nat} {k : Nat} (h : th.Nodup) (hk : k < th.length) : (cutk k th).Nodup := by
  have e := cutk_split hk
  rw [e] at h
  unfold cutk
  obtain ⟨h1, h2, h3⟩ := List.nodup_append.1 h
  exact List.nodup_append.2 ⟨h1, (List.nodup_cons.1 h2).2, fun a ha b hb => h3 a ha b (List.mem_cons_of_mem _ hb)⟩
theorem cutk_mem {th : List Nat} {k n x : Nat} (h : th.Nodup) (hk : k < th.length) (hn : th.getD k 0 = n) : x ∈ cutk k th ↔ x ∈ th ∧ x ≠ n := by
  have e := cutk_split hk
  rw [hn] at e
  rw [e] at h
  obtain ⟨h1, h2, h3⟩ := List.nodup_append.1 h
  have n1 : n ∉ th.take k := fun hm => h3 n hm n (by simp) rfl
  have n2 : n ∉ th.drop (k + 1) := (List.nodup_cons.1 h2).1
  have em : x ∈ th ↔ x ∈ th.take k ∨ x = n ∨ x ∈ th.drop (k + 1) := by
    conv => lhs; rw [e]
    simp
  rw [em]
  unfold cutk
  rw [List.mem_append]
  constructor
  · rintro (h | h)
    · exact ⟨.inl h, fun e => n1 (e ▸ h)⟩
    · exact ⟨.inr (.inr h), fun e => n2 (e ▸ h)⟩
  · rintro ⟨h | h | h, hne⟩
    · exact .inl h
    · exact absurd h hne
    · exact .inr h
theorem same_len {th ks : List Nat} (h : th.Nodup) (hs : ks.Pairwise (· < ·)) (hm : ∀ x, x ∈ th ↔ x ∈ ks) : th.length = ks.length := by
  have h2 : ks.Nodup := hs.imp fun h e => by omega
  exact ((List.perm_ext_iff_of_nodup h h2).2 hm).length_eq
end Go.Proofs.YtljopkmpcolgfaaDoor
