/-
  The document's end.
-/
import Derived.Test.YtfoblbpbhldngaaDoorOp6
import Derived.Deep.DeepCutAuto
namespace Go.Proofs.YtfoblbpbhldngaaDoor
open Flo Go.RowKit Tr
/-- how many orders aren't ended, in memory -/
def opn (g : Nat) (w : World) : Nat := match w.cell? ⟨g, 2, none⟩ with | some (.slice _ n _) => n | _ => 0
theorem opn_of {g n sc : Nat} {sa : Option Addr} {w : World} {l : List UInt8} {p : Nat} (h : Pz w g l p (.slice sa n sc)) : opn g w = n := by unfold opn; rw [h.c2]
def EE (X g : Nat) (l : List UInt8) (p : Nat) (fs : List Tr) (sv : Value) (t0 : Tr) (w : World) (e : Ending) (w' : World) : Prop :=
  ∃ (sv' : Value) (ss' : List Value) (fs' : List Tr) (p' : Nat) (v : Value) (wh ok : Bool), e = .returned (.tuple #[v, .bool wh, .bool ok]) ∧ PS X w sv w' g l p' sv' fs' ss' ∧ p ≤ p' ∧
    ((ok = false ∧ Ps.kont l fs.reverse (some t0, p) = (none, p')) ∨ (ok = true ∧ wh = true ∧ ∃ t, Ps.kont l fs.reverse (some t0, p) = (some t, p') ∧ Os (fun b => g + 1 ≤ b ∧ b ≠ X) w' t v) ∨ (ok = true ∧ wh = false ∧ p < p' ∧ Ps.kont l fs.reverse (some t0, p) = Ps.kont l fs'.reverse (Ps.pa l p'))) ∧ ∃ k n a l c, v = .agg #[.int .i64 k, .int .i64 n, .slice a l c]
set_option maxHeartbeats 4000000 in
set_option maxRecDepth 100000 in
theorem end_c (X g p : Nat) (l : List UInt8) (sv : Value) (fs : List Tr) (ss : List Value) (t0 : Tr) (v0 : Value) (w : World) (hz : Pz w g l p sv) (hq : Gq X (g + 1) w sv fs ss) (ho : Os (fun b => (g + 1 ≤ b ∧ b ≠ X) ∧ some b ≠ sv.ownBlock) w t0 v0) (hXw : X < w.heap.size) (hl : l.length ≤ 65536) (hp : p ≤ l.length) (hfs : fs.length ≤ p) :
    Calls Tryd.prog 24 #[.pointer (some ⟨g, 0, none⟩), v0] w (EE X g l p fs sv t0 w) := by
  obtain ⟨i0, hi0, iz0, iz1, iz2⟩ := info_o
  obtain ⟨sa, sc, rfl⟩ : ∃ a c, sv = .slice a fs.length c := by
    rcases hq.own.2 with ⟨e, e0⟩ | ⟨_, _, _, e, _⟩
    · exact ⟨none, 0, by rw [e, e0]⟩
    · exact ⟨_, _, e⟩
  obtain ⟨ta0, tc0, rfl⟩ := ho.shape
  obtain ⟨R, hR⟩ : ∃ R, Hid (w.heap.size = R) := ⟨_, (rfl : _ = _)⟩
  obtain ⟨wa, ewa⟩ : ∃ wa, Hid (w.alloc (.cells #[.int .i64 t0.k, .int .i64 t0.n, .slice ta0 t0.ks.length tc0] 25) = wa) := ⟨_, (rfl : _ = _)⟩
  obtain ⟨wb, ewb⟩ : ∃ wb, Hid (wa.alloc (.cells #[.int .i64 0, .int .i64 0, .slice none 0 0] 25) = wb) := ⟨_, (rfl : _ = _)⟩
  have sa1 : wa.heap.size = w.heap.size + 1 := by rw [← ewa.out]; simp
  have Bb : Below w.heap.size w wb := by rw [← ewb.out, ← ewa.out]; exact ((Below.refl _ _).alloc (Nat.le_refl _) _).alloc (by simp) _
  have Gb : Hid (w.grownBy wb (some g)) := below_gb Bb _
  have Xb : Hid (Bo wb w.heap.size t0.k t0.n (.slice ta0 t0.ks.length tc0)) := by show Bo _ _ _ _ _; rw [← ewb.out, ← ewa.out]; exact (Bo.new w _ _ _).bel ((Below.refl _ _).alloc (Nat.le_refl _) _)
  have Yb : Hid (Bo wb (w.heap.size + 1) 0 0 (.slice none 0 0)) := by show Bo _ _ _ _ _; rw [← ewb.out, ← sa1]; exact Bo.new _ _ _ _
  have hXR : Hid (X < R) := by show X < R; rw [← hR.out]; exact hXw
  have hgw : g < R := by rw [← hR.out]; exact blk_lt hz.b
  have Zb : Hid (Pz wb g l p (.slice sa fs.length sc)) := ⟨(Bb.block g (by rw [hR.out]; exact hgw)).trans hz.b⟩
  have hqH : Hid (Gq X (g + 1) w (.slice sa fs.length sc) fs ss) := hq
  have Ob : Hid (Os (fun b => (g + 1 ≤ b ∧ b ≠ X) ∧ some b ≠ (Value.slice sa 0 0).ownBlock ∧ b ≠ R ∧ b ≠ R + 1) wb t0 (.agg #[.int .i64 t0.k, .int .i64 t0.n, .slice ta0 t0.ks.length tc0])) := Os.keep2 (fun b hb hl' => ⟨hb.1, by cases sa <;> exact hb.2, by rw [← hR.out]; omega, by rw [← hR.out]; omega⟩) (fun b _ hl' => Bb.block b hl') _ _ ho
  clear hz hq ho Bb sa1 hXw
  go_enter Tryd.func24, Tryd.ntmps24
  go_wp2_with fail
  rw [ewa.out, ewb.out, hR.out]
  rw [hR.out] at Xb Yb
  go_loopw [7] (fun _ wx => ∃ (n q : Nat) (t : Tr) (ta : Option Addr) (tl tc : Nat), n ≤ fs.length ∧ p ≤ q ∧ q ≤ l.length ∧ Hid (w.grownBy wx (some g)) ∧ Hid (Pz wx g l q (.slice sa n sc)) ∧ Hid (Bo wx R t.k t.n (.slice ta tl tc)) ∧ Hid (Bo wx (R + 1) 0 0 (.slice none 0 0)) ∧ Hid (Os (fun b => (g + 1 ≤ b ∧ b ≠ X) ∧ some b ≠ (Value.slice sa 0 0).ownBlock ∧ b ≠ R ∧ b ≠ R + 1) wx t (.agg #[.int .i64 t.k, .int .i64 t.n, .slice ta tl tc])) ∧ Hid (Ps.kont l fs.reverse (some t0, p) = Ps.kont l (fs.take n).reverse (some t, q))) (fun _ wx => opn g wx)
  case atStart => exact ⟨fs.length, p, t0, _, _, _, Nat.le_refl _, Nat.le_refl _, hp, Gb, Zb, Xb, Yb, Ob, (by show _ = _; rw [List.take_length])⟩
  case round =>
    clear Gb Zb Xb Yb Ob ewa ewb
    obtain ⟨n, q, t, ta, tl, tc, hn, hpq, hql, hG, hZ, hX, hY, hO, hK⟩ := hrel
    have c2 := hZ.out.c2
    by_cases hn0 : n = 0
    · subst hn0
      have x0 := hX.out.c0
      have x1 := hX.out.c1
      have x2 := hX.out.c2
      have y0 := hY.out.c0
      have y1 := hY.out.c1
      have y2 := hY.out.c2
      have yf := hY.out.fz
      have hfin : Hid (EE X g l p fs (.slice sa fs.length sc) t0 w (.returned (.tuple #[.agg #[.int .i64 t.k, .int .i64 t.n, .slice ta tl tc], .bool true, .bool true])) (st3 wr (R + 1) t.k t.n (.slice ta tl tc))) := by
        have hG1 : w.grownBy (st3 wr (R + 1) t.k t.n (.slice ta tl tc)) (some g) := st3_gb (by rw [hR.out]; omega) hG.out
        refine ⟨.slice sa 0 sc, ss.take 0, fs.take 0, q, _, true, true, rfl, ⟨⟨by rw [st3_blk _ _ _ _ _ (by omega)]; exact hZ.out.b⟩, (hqH.out.cut (Nat.zero_le _)).gb hG1 (by omega), Ch.gb hG1, fun b hb => .inl (by cases sa <;> exact hb), hql, by simp⟩, hpq, .inr (.inl ⟨rfl, rfl, t, hK.out, ?_⟩), _, _, _, _, _, rfl⟩
        exact Os.keep (fun b hb => hb.1) (fun b hb _ => st3_blk _ _ _ _ _ hb.2.2.2) _ _ hO.out
      obtain ⟨tk, htk⟩ : ∃ tk, Hid (t.k = tk) := ⟨_, (rfl : _ = _)⟩
      obtain ⟨tn, htn⟩ : ∃ tn, Hid (t.n = tn) := ⟨_, (rfl : _ = _)⟩
      rw [htk.out] at x0 hfin
      rw [htn.out] at x1 hfin
      go_wp2_with fail
      refine bodyPost_ret (v := .tuple #[.agg #[.int .i64 tk, .int .i64 tn, .slice ta tl tc], .bool true, .bool true]) (by simp [results, Tryd.results24, go_sem, y0, y1, y2]) rfl ?_
      exact hfin.out
    · obtain ⟨m, rfl⟩ : ∃ m, n = m + 1 := ⟨n - 1, by omega⟩
      obtain ⟨n1, hn1, hn1'⟩ : ∃ n1 : Nat, Hid (n1 = m + 1) ∧ (n1 : Int) - 1 = (m : Int) := ⟨m + 1, (rfl : _ = _), by omega⟩
      rw [← hn1.out] at c2 hZ
      have hmI : (m : Int) < (n1 : Int) := by omega
      have hn1p : (n1 : Int) > 0 := by omega
      have hm64 : n1 ≤ 65536 := by rw [hn1.out]; omega
      have hfm : fs[m]? = some fs[m] := List.getElem?_eq_getElem (by omega)
      obtain ⟨f, hf⟩ : ∃ f, fs[m] = f := ⟨_, rfl⟩
      rw [hf] at hfm
      obtain ⟨r, sf, rfl, hr1, hr2, hsm, ⟨fa, fl, fc, rfl⟩, k0, k1, k2, hcur, hcap, hOf⟩ := hqH.out.last hfm
      have hrg : some r ≠ some g := fun e => by have := Option.some.inj e; omega
      have d0 := hG.out.cell (a := ⟨r, m * 3, none⟩) k0 hrg
      have d1 := hG.out.cell (a := ⟨r, m * 3 + 1, none⟩) k1 hrg
      have d2 := hG.out.cell (a := ⟨r, m * 3 + 2, none⟩) k2 hrg
      obtain ⟨fk, hfk⟩ : ∃ fk, Hid (f.k = fk) := ⟨_, (rfl : _ = _)⟩
      obtain ⟨fn, hfn⟩ : ∃ fn, Hid (f.n = fn) := ⟨_, (rfl : _ = _)⟩
      rw [hfk.out] at d0
      rw [hfn.out] at d1
      have hOfH : Hid (Os (fun b => (g + 1 ≤ b ∧ b ≠ X) ∧ b ≠ r) w f (.agg #[.int .i64 f.k, .int .i64 f.n, .slice fa fl fc])) := hOf
      have hnlH : Hid ((f.ks = [] ∧ Value.slice fa fl fc = .slice none 0 0) ∨ ∃ x, f.ks = [x]) := hqH.out.nl m f _ hfm hsm
      have hfmH : Hid (fs[m]? = some f) := hfm
      clear k0 k1 k2 hOf hsm hf hfm hn0 hcur hcap
      have hgs : g < wr.heap.size := blk_lt hZ.out.b
      have hrs : r < wr.heap.size := Nat.lt_of_lt_of_le hr2 hG.out.size
      have hgs' : ¬ g = wr.heap.size := by omega
      have hrs' : ¬ r = wr.heap.size := by omega
      have e1 : (wr.alloc (.cells #[.int .i64 0, .int .i64 0, .slice none 0 0] 71)).cell? ⟨g, 2, none⟩ = some (.slice (some ⟨r, 0, none⟩) n1 sc) := cell_alloc c2 _
      have e2 : (wr.alloc (.cells #[.int .i64 0, .int .i64 0, .slice none 0 0] 71)).cell? ⟨r, m * 3, none⟩ = some (.int .i64 fk) := cell_alloc d0 _
      have e3 : (wr.alloc (.cells #[.int .i64 0, .int .i64 0, .slice none 0 0] 71)).cell? ⟨r, m * 3 + 1, none⟩ = some (.int .i64 fn) := cell_alloc d1 _
      have e4 : (wr.alloc (.cells #[.int .i64 0, .int .i64 0, .slice none 0 0] 71)).cell? ⟨r, m * 3 + 2, none⟩ = some (.slice fa fl fc) := cell_alloc d2 _
      go_upto_region 2 with fail
      go_region
      go_wp2_with fail
      obtain ⟨F, hF⟩ : ∃ F, Hid (wr.heap.size = F) := ⟨_, (rfl : _ = _)⟩
      obtain ⟨w2, ew2⟩ : ∃ w2, Hid ((wr.alloc (.cells #[.int .i64 fk, .int .i64 fn, .slice fa fl fc] 71)).drew = w2) := ⟨_, (rfl : _ = _)⟩
      rw [ew2.out, hF.out]
      have B2 : Hid (Below wr.heap.size wr w2) := by show Below _ _ _; rw [← ew2.out]; exact ((Below.refl _ _).alloc (Nat.le_refl _) _).drew
      have K2 : Hid (w2.heap[F]? = some (.cells #[.int .i64 fk, .int .i64 fn, .slice fa fl fc] 71)) := by show _ = _; rw [← ew2.out, ← hF.out]; exact heap_alloc_new wr _
      have X2 : Hid (Bo w2 R t.k t.n (.slice ta tl tc)) := hX.out.bel B2.out
      have hgF : g < F := by rw [← hF.out]; exact hgs
      have hrF : r < F := by rw [← hF.out]; exact hrs
      have hRF : R + 1 < F := by rw [← hF.out]; exact hY.out.lt
      have hXF : X < F := by have := hXR.out; omega
      have hS : Hid (∀ Z : World, (∀ b : Nat, b < w2.heap.size → b ≠ F → Z.heap[b]? = w2.heap[b]?) → Z.cell? ⟨R, 0, none⟩ = some (.int .i64 t.k) ∧ Z.cell? ⟨R, 1, none⟩ = some (.int .i64 t.n) ∧ Z.cell? ⟨R, 2, none⟩ = some (.slice ta tl tc)) := fun Z hZ' => by
        have hx : Bo Z R t.k t.n (.slice ta tl tc) := ⟨(hZ' R X2.out.lt (by omega)).trans X2.out.b⟩
        exact ⟨hx.c0, hx.c1, hx.c2⟩
      have hS0 : Hid (∀ Z : World, Below w2.heap.size w2 Z → Z.cell? ⟨F, 2, none⟩ = some (.slice fa fl fc)) := fun Z hZ' => Joins.cell_of_block ((hZ'.block F (blk_lt K2.out)).trans K2.out) 2
      have hFs : Hid (w2.heap.size = F + 1) := by show _ = _; rw [← ew2.out, ← hF.out]; simp
      have hfzS : Hid (∀ Z : World, Below w2.heap.size w2 Z → Z.frozen? ⟨F, 2, none⟩ = false) := fun Z hZ' => Joins.unfrozen_of_block ((hZ'.block F (blk_lt K2.out)).trans K2.out) 2
      clear e1 e2 e3 e4 d0 d1 d2 c2 hgs hrs hgs' hrs'
      have hOt : Hid (Os (fun b => (g + 1 ≤ b ∧ b ≠ X) ∧ b ≠ r ∧ b ≠ R ∧ b ≠ R + 1) wr t (.agg #[.int .i64 t.k, .int .i64 t.n, .slice ta tl tc])) := Os.keep (fun b hb => ⟨hb.1, fun e => hb.2.1 (by rw [e]; rfl), hb.2.2⟩) (fun _ _ _ => rfl) _ _ hO.out
      have hK2f : Hid (w2.heap[F]? = some (.cells #[.int .i64 f.k, .int .i64 f.n, .slice fa fl fc] 71)) := by show _ = _; rw [hfk.out, hfn.out]; exact K2.out
      have hfA : Hid (f.ks = [] → ∀ (r3 c3 : Nat) (w3 : World), w3.ownsRow w2.heap.size 25 3 (.slice (some ⟨r3, 0, none⟩) 1 c3) 1 [.int .i64 t.k, .int .i64 t.n, .slice ta tl tc] → Below w2.heap.size w2 w3 → EN X wr F g r R f t r3 c3 (w3.setCell ⟨F, 2, none⟩ (.slice (some ⟨r3, 0, none⟩) 1 c3))) := fun hks r3 c3 w3 h1 h2 => by
        have e : f.ks.length + 1 = 1 := by rw [hks]; rfl
        have := en_of (r3 := r3) (c3 := c3) (t := t) (ss := [.slice ta tl tc]) hF.out hFs.out B2.out hK2f.out h2 hOfH.out.fits (by rw [hks]; rfl) (by rw [hks]; simp) (by rw [e, hks]; exact h1) hrF hRF hgF hXF (fun j u s' e1 e2 => by
          rw [hks] at e1
          match j, e1, e2 with
          | 0, e1, e2 => simp at e1 e2; subst e1 e2; exact hOt.out
          | j + 1, e1, e2 => simp at e1)
        rw [e] at this
        exact this
      have hfB : Hid (∀ (x : Tr) (a1 : Option Addr) (l1 p1 : Nat), f.ks = [x] → Os (fun b => (g + 1 ≤ b ∧ b ≠ X) ∧ b ≠ r) w x (.agg #[.int .i64 x.k, .int .i64 x.n, .slice a1 l1 p1]) → ∀ (r3 c3 : Nat) (w3 : World), w3.ownsRow w2.heap.size 25 3 (.slice (some ⟨r3, 0, none⟩) 2 c3) 2 [.int .i64 x.k, .int .i64 x.n, .slice a1 l1 p1, .int .i64 t.k, .int .i64 t.n, .slice ta tl tc] → Below w2.heap.size w2 w3 → EN X wr F g r R f t r3 c3 (w3.setCell ⟨F, 2, none⟩ (.slice (some ⟨r3, 0, none⟩) 2 c3))) := fun x a1 l1 p1 hks hx r3 c3 w3 h1 h2 => by
        have e : f.ks.length + 1 = 2 := by rw [hks]; rfl
        have hx' : Os (fun b => (g + 1 ≤ b ∧ b ≠ X) ∧ b ≠ r ∧ b ≠ R ∧ b ≠ R + 1) wr x (.agg #[.int .i64 x.k, .int .i64 x.n, .slice a1 l1 p1]) := Os.keep2 (fun b hb hlt => ⟨hb.1, hb.2, by rw [← hR.out]; omega, by rw [← hR.out]; omega⟩) (fun b hb hlt => hG.out.block b hlt (fun e => by have := Option.some.inj e; have := hb.1.1; omega)) _ _ hx
        have := en_of (r3 := r3) (c3 := c3) (t := t) (ss := [.slice a1 l1 p1, .slice ta tl tc]) hF.out hFs.out B2.out hK2f.out h2 hOfH.out.fits (by rw [hks]; rfl) (by rw [hks]; simp) (by rw [e, hks]; exact h1) hrF hRF hgF hXF (fun j u s' e1 e2 => by
          rw [hks] at e1
          match j, e1, e2 with
          | 0, e1, e2 => simp at e1 e2; subst e1 e2; exact hx'
          | 1, e1, e2 => simp at e1 e2; subst e1 e2; exact hOt.out
          | j + 2, e1, e2 => simp at e1)
        rw [e] at this
        exact this
      go_cut [] (fun wx => ∃ r3 c3, Hid (EN X wr F g r R f t r3 c3 wx))
      case first =>
        obtain ⟨tk, htk⟩ : ∃ tk, Hid (t.k = tk) := ⟨_, (rfl : _ = _)⟩
        obtain ⟨tn, htn⟩ : ∃ tn, Hid (t.n = tn) := ⟨_, (rfl : _ = _)⟩
        rw [htk.out, htn.out] at hS hfA hfB
        obtain ⟨r00, r01, r02⟩ := hS.out w2 (fun _ _ _ => rfl)
        obtain ⟨r10, r11, r12⟩ := hS.out (w2.alloc (.cells #[] 25)) (fun b hb _ => Below.block (B := w2.heap.size) ((Below.refl _ _).alloc (Nat.le_refl _) _) b hb)
        have s0 := hS0.out w2 (Below.refl _ _)
        have s0E := hS0.out (w2.alloc (.cells #[] 25)) ((Below.refl _ _).alloc (Nat.le_refl _) _)
        have s0O := hS0.out (w2.alloc (.cells #[.int .i64 tk, .int .i64 tn, .slice ta tl tc] 25)) ((Below.refl _ _).alloc (Nat.le_refl _) _)
        have s0EO := hS0.out ((w2.alloc (.cells #[] 25)).alloc (.cells #[.int .i64 tk, .int .i64 tn, .slice ta tl tc] 25)) (((Below.refl _ _).alloc (Nat.le_refl _) _).alloc (by simp <;> omega) _)
        have s0OE := hS0.out ((w2.alloc (.cells #[.int .i64 tk, .int .i64 tn, .slice ta tl tc] 25)).alloc (.cells #[] 25)) (((Below.refl _ _).alloc (Nat.le_refl _) _).alloc (by simp <;> omega) _)
        rcases hnlH.out with ⟨hks, hfe⟩ | ⟨x, hks⟩
        · simp only [Value.slice.injEq] at hfe
          obtain ⟨rfl, rfl, rfl⟩ := hfe
          go_region_law (first
            | (refine step_A rfl (.tmp 31) (.tmp 33) rfl w2 (((Below.refl _ _).alloc (Nat.le_refl _) _).alloc (by simp <;> omega) _).drew w2.heap.size (w2.heap.size + 1) tk tn ta tl tc (by simp [Act.eval]) (by simp [Act.eval]) (Nat.le_refl _) (two_new w2 _ _).1 (two_new w2 _ _).2 ?_
               intro r3 c3 w3 own3' B3'
               have own3 : Hid (w3.ownsRow w2.heap.size 25 3 (.slice (some ⟨r3, 0, none⟩) 1 c3) 1 [.int .i64 tk, .int .i64 tn, .slice ta tl tc]) := own3'
               have B3 : Hid (Below w2.heap.size w2 w3) := B3'
               clear own3' B3'
               have f3 := hfzS.out _ B3.out
               have g3 := hS0.out _ B3.out)
            | (refine step_A rfl (.tmp 31) (.tmp 33) rfl w2 (((Below.refl _ _).alloc (Nat.le_refl _) _).alloc (by simp <;> omega) _).drew (w2.heap.size + 1) w2.heap.size tk tn ta tl tc (by simp [Act.eval]) (by simp [Act.eval]) (Nat.le_succ _) (two_new w2 _ _).2 (two_new w2 _ _).1 ?_
               intro r3 c3 w3 own3' B3'
               have own3 : Hid (w3.ownsRow w2.heap.size 25 3 (.slice (some ⟨r3, 0, none⟩) 1 c3) 1 [.int .i64 tk, .int .i64 tn, .slice ta tl tc]) := own3'
               have B3 : Hid (Below w2.heap.size w2 w3) := B3'
               clear own3' B3'
               have f3 := hfzS.out _ B3.out
               have g3 := hS0.out _ B3.out)
            | fail)
          all_goals go_wp2_with fail
          all_goals go_meet
          all_goals exact ⟨_, _, hfA.out hks _ _ _ own3.out B3.out⟩
        · obtain ⟨fb, a1, l1, p1, rfl, rfl, hfb, hfS, q0, q1, q2, hOx⟩ := os_kid hOfH.out hks (fun u v h => by obtain ⟨a, c, e⟩ := h.shape; exact ⟨a, _, c, e⟩)
          have hcx : Hid (∀ Z : World, Below w2.heap.size w2 Z → Z.cell? ⟨fb, 0, none⟩ = some (.int .i64 x.k) ∧ Z.cell? ⟨fb, 1, none⟩ = some (.int .i64 x.n) ∧ Z.cell? ⟨fb, 2, none⟩ = some (.slice a1 l1 p1)) := fun Z hZ' => by
            have hne : some fb ≠ some g := fun e => by have := Option.some.inj e; have := hfS.1.1; omega
            have hlt : fb < wr.heap.size := Nat.lt_of_lt_of_le hfb hG.out.size
            have hh : Z.heap[fb]? = wr.heap[fb]? := (hZ'.block fb (by rw [hFs.out, ← hF.out]; omega)).trans (B2.out.block fb hlt)
            exact ⟨(World.cell?_of_block hh).trans (hG.out.cell (a := ⟨fb, 0, none⟩) q0 hne), (World.cell?_of_block hh).trans (hG.out.cell (a := ⟨fb, 1, none⟩) q1 hne), (World.cell?_of_block hh).trans (hG.out.cell (a := ⟨fb, 2, none⟩) q2 hne)⟩
          have hfB' := hfB.out x a1 l1 p1 hks hOx
          have hfBH : Hid (∀ (r3 c3 : Nat) (w3 : World), _ → _ → _) := hfB'
          clear hfB' q0 q1 q2 hfb hfS
          obtain ⟨xk, hxk⟩ : ∃ xk, Hid (x.k = xk) := ⟨_, (rfl : _ = _)⟩
          obtain ⟨xn, hxn⟩ : ∃ xn, Hid (x.n = xn) := ⟨_, (rfl : _ = _)⟩
          rw [hxk.out, hxn.out] at hcx hfBH
          go_region_law (first
            | (refine step_B rfl (.tmp 27) (.tmp 30) rfl w2 ((Below.refl _ _).alloc (Nat.le_refl _) _).drew w2.heap.size 0 0 fb fc [] xk xn a1 l1 p1 (by simp [Act.eval]) (by simp [Act.eval]) (own_e (Nat.le_refl _) (heap_alloc_new w2 _)) (hcx.out _ ((Below.refl _ _).alloc (Nat.le_refl _) _).drew).1 (hcx.out _ ((Below.refl _ _).alloc (Nat.le_refl _) _).drew).2.1 (hcx.out _ ((Below.refl _ _).alloc (Nat.le_refl _) _).drew).2.2 (Nat.zero_le _) ?_
               intro r4 c4 w4 own4' B4' kp4
               have own4 : Hid (w4.ownsRow w2.heap.size 25 3 (.slice (some ⟨r4, 0, none⟩) 1 c4) 1 [.int .i64 xk, .int .i64 xn, .slice a1 l1 p1]) := own4'
               have B4 : Hid (Below w2.heap.size w2 w4) := B4'
               clear own4' B4' kp4
               obtain ⟨r40, r41, r42⟩ := hS.out w4 (fun b hb _ => B4.out.block b hb))
            | (refine step_B rfl (.tmp 27) (.tmp 30) rfl w2 (((Below.refl _ _).alloc (Nat.le_refl _) _).alloc (by simp <;> omega) _).drew w2.heap.size 0 0 fb fc [] xk xn a1 l1 p1 (by simp [Act.eval]) (by simp [Act.eval]) (own_e (Nat.le_refl _) (two_new w2 _ _).1) (hcx.out _ (((Below.refl _ _).alloc (Nat.le_refl _) _).alloc (by simp <;> omega) _).drew).1 (hcx.out _ (((Below.refl _ _).alloc (Nat.le_refl _) _).alloc (by simp <;> omega) _).drew).2.1 (hcx.out _ (((Below.refl _ _).alloc (Nat.le_refl _) _).alloc (by simp <;> omega) _).drew).2.2 (Nat.zero_le _) ?_
               intro r4 c4 w4 own4' B4' kp4
               have hO4 : Hid (w4.heap[w2.heap.size + 1]? = some (.cells #[.int .i64 tk, .int .i64 tn, .slice ta tl tc] 25)) := (kp4 _ (by omega) (by simp <;> omega)).trans (two_new w2 _ _).2
               have own4 : Hid (w4.ownsRow w2.heap.size 25 3 (.slice (some ⟨r4, 0, none⟩) 1 c4) 1 [.int .i64 xk, .int .i64 xn, .slice a1 l1 p1]) := own4'
               have B4 : Hid (Below w2.heap.size w2 w4) := B4'
               clear own4' B4' kp4
               obtain ⟨r40, r41, r42⟩ := hS.out w4 (fun b hb _ => B4.out.block b hb))
            | (refine step_B rfl (.tmp 27) (.tmp 30) rfl w2 (((Below.refl _ _).alloc (Nat.le_refl _) _).alloc (by simp <;> omega) _).drew (w2.heap.size + 1) 0 0 fb fc [] xk xn a1 l1 p1 (by simp [Act.eval]) (by simp [Act.eval]) (own_e (Nat.le_succ _) (two_new w2 _ _).2) (hcx.out _ (((Below.refl _ _).alloc (Nat.le_refl _) _).alloc (by simp <;> omega) _).drew).1 (hcx.out _ (((Below.refl _ _).alloc (Nat.le_refl _) _).alloc (by simp <;> omega) _).drew).2.1 (hcx.out _ (((Below.refl _ _).alloc (Nat.le_refl _) _).alloc (by simp <;> omega) _).drew).2.2 (Nat.zero_le _) ?_
               intro r4 c4 w4 own4' B4' kp4
               have hO4 : Hid (w4.heap[w2.heap.size]? = some (.cells #[.int .i64 tk, .int .i64 tn, .slice ta tl tc] 25)) := (kp4 _ (by omega) (by simp <;> omega)).trans (two_new w2 _ _).1
               have own4 : Hid (w4.ownsRow w2.heap.size 25 3 (.slice (some ⟨r4, 0, none⟩) 1 c4) 1 [.int .i64 xk, .int .i64 xn, .slice a1 l1 p1]) := own4'
               have B4 : Hid (Below w2.heap.size w2 w4) := B4'
               clear own4' B4' kp4
               obtain ⟨r40, r41, r42⟩ := hS.out w4 (fun b hb _ => B4.out.block b hb))
            | (refine step_B rfl (.tmp 31) (.tmp 33) rfl w2 B4.out r4 1 c4 (w2.heap.size + 1) 1 [.int .i64 xk, .int .i64 xn, .slice a1 l1 p1] tk tn ta tl tc (by simp [Act.eval]) (by simp [Act.eval]) own4.out (Joins.cell_of_block hO4.out 0) (Joins.cell_of_block hO4.out 1) (Joins.cell_of_block hO4.out 2) (by decide) ?_
               intro r3 c3 w3 own3' B3' _
               have own3 : Hid (w3.ownsRow w2.heap.size 25 3 (.slice (some ⟨r3, 0, none⟩) 2 c3) 2 [.int .i64 xk, .int .i64 xn, .slice a1 l1 p1, .int .i64 tk, .int .i64 tn, .slice ta tl tc]) := own3'
               have B3 : Hid (Below w2.heap.size w2 w3) := B3'
               clear own3' B3'
               have f3 := hfzS.out _ B3.out
               have g3 := hS0.out _ B3.out)
            | (refine step_B rfl (.tmp 31) (.tmp 33) rfl w2 B4.out r4 1 c4 w2.heap.size 1 [.int .i64 xk, .int .i64 xn, .slice a1 l1 p1] tk tn ta tl tc (by simp [Act.eval]) (by simp [Act.eval]) own4.out (Joins.cell_of_block hO4.out 0) (Joins.cell_of_block hO4.out 1) (Joins.cell_of_block hO4.out 2) (by decide) ?_
               intro r3 c3 w3 own3' B3' _
               have own3 : Hid (w3.ownsRow w2.heap.size 25 3 (.slice (some ⟨r3, 0, none⟩) 2 c3) 2 [.int .i64 xk, .int .i64 xn, .slice a1 l1 p1, .int .i64 tk, .int .i64 tn, .slice ta tl tc]) := own3'
               have B3 : Hid (Below w2.heap.size w2 w3) := B3'
               clear own3' B3'
               have f3 := hfzS.out _ B3.out
               have g3 := hS0.out _ B3.out)
            | (refine step_B rfl (.tmp 31) (.tmp 33) rfl w2 (B4.out.alloc B4.out.size _) r4 1 c4 w4.heap.size 1 [.int .i64 xk, .int .i64 xn, .slice a1 l1 p1] tk tn ta tl tc (by simp [Act.eval]) (by simp [Act.eval]) (own4.out.alloc _) (Joins.cell_of_block (heap_alloc_new w4 _) 0) (Joins.cell_of_block (heap_alloc_new w4 _) 1) (Joins.cell_of_block (heap_alloc_new w4 _) 2) (by decide) ?_
               intro r3 c3 w3 own3' B3' _
               have own3 : Hid (w3.ownsRow w2.heap.size 25 3 (.slice (some ⟨r3, 0, none⟩) 2 c3) 2 [.int .i64 xk, .int .i64 xn, .slice a1 l1 p1, .int .i64 tk, .int .i64 tn, .slice ta tl tc]) := own3'
               have B3 : Hid (Below w2.heap.size w2 w3) := B3'
               clear own3' B3'
               have f3 := hfzS.out _ B3.out
               have g3 := hS0.out _ B3.out)
            | fail)
          all_goals go_wp2_with fail
          all_goals go_meet
          all_goals exact ⟨_, _, hfBH.out _ _ _ own3.out B3.out⟩
      case rest =>
        obtain ⟨r3, c3, hEN⟩ := hcut
        rename World => wx
        clear hfA hfB hS hS0 hfzS hK2f X2 K2 B2 ew2 hFs
        obtain ⟨N, hN⟩ : ∃ N, Hid (f.ks.length + 1 = N) := ⟨_, (rfl : _ = _)⟩
        have hBx : Hid (Below wr.heap.size wr wx) := by show Below _ _ _; rw [hF.out]; exact hEN.out.b
        have hbx : Hid (wx.heap[F]? = some (.cells #[.int .i64 fk, .int .i64 fn, .slice (some ⟨r3, 0, none⟩) N c3] 71 (0, 0))) := by show _ = _; rw [← hfk.out, ← hfn.out, ← hN.out]; exact hEN.out.k
        have hFx : F < wx.heap.size := blk_lt hbx.out
        have Zx : Hid (Pz wx g l q (.slice (some ⟨r, 0, none⟩) n1 sc)) := ⟨(hBx.out.block g (by rw [hF.out]; exact hgF)).trans hZ.out.b⟩
        have Xx : Hid (Bo wx R t.k t.n (.slice ta tl tc)) := hX.out.bel hBx.out
        have Yx : Hid (Bo wx (R + 1) 0 0 (.slice none 0 0)) := hY.out.bel hBx.out
        have Gx : Hid (w.grownBy wx (some g)) := gb_tr hG.out (below_gb hBx.out _)
        have kF0 : wx.cell? ⟨F, 0, none⟩ = some (.int .i64 fk) := Joins.cell_of_block hbx.out 0
        have kF1 : wx.cell? ⟨F, 1, none⟩ = some (.int .i64 fn) := Joins.cell_of_block hbx.out 1
        have kF2 : wx.cell? ⟨F, 2, none⟩ = some (.slice (some ⟨r3, 0, none⟩) N c3) := Joins.cell_of_block hbx.out 2
        have hrev : Hid ((fs.take (m + 1)).reverse = f :: (fs.take m).reverse) := by show _ = _; rw [take_last hfmH.out]; simp
        by_cases hc : f.k = 3 ∧ f.ks.length = 0
        · obtain ⟨hc1, hc2⟩ := hc
          have e3 : fk = 3 := by rw [← hfk.out]; exact hc1
          have e1 : N = 1 := by rw [← hN.out, hc2]
          subst e3 e1
          have hks : Hid (f.ks = []) := List.eq_nil_of_length_eq_zero hc2
          clear hc2
          have hlast : Hid (∃ a b s, w.cell? ⟨r, m * 3, none⟩ = some a ∧ w.cell? ⟨r, m * 3 + 1, none⟩ = some b ∧ w.cell? ⟨r, m * 3 + 2, none⟩ = some s ∧ ∃ cur, w.heap[r]? = some (.cells cur 71 (0, 0))) := by
            obtain ⟨r', s, e, h1, h2, h3, h4, k0, k1, k2, ⟨cur, h5, _⟩, _⟩ := hqH.out.last hfmH.out
            simp only [Option.some.injEq, Addr.mk.injEq, and_true] at e
            subst e
            exact ⟨_, _, _, k0, k1, k2, cur, h5⟩
          obtain ⟨a0, a1, a2, k0, k1, k2, cur, hcur⟩ := hlast.out
          have hrx : wx.heap[r]? = some (.cells cur 71 (0, 0)) := (Gx.out.block r hr2 hrg).trans hcur
          have p0 : wx.drew.cell? ⟨r, m * 3, none⟩ = some a0 := Gx.out.cell (a := ⟨r, m * 3, none⟩) k0 hrg
          have p1 : wx.drew.cell? ⟨r, m * 3 + 1, none⟩ = some a1 := Gx.out.cell (a := ⟨r, m * 3 + 1, none⟩) k1 hrg
          have p2 : wx.drew.cell? ⟨r, m * 3 + 2, none⟩ = some a2 := Gx.out.cell (a := ⟨r, m * 3 + 2, none⟩) k2 hrg
          have pf : ∀ i, wx.drew.frozen? ⟨r, i, none⟩ = false := fun i => Joins.unfrozen_of_block hrx i
          have d2 : wx.drew.cell? ⟨g, 2, none⟩ = some (.slice (some ⟨r, 0, none⟩) n1 sc) := Zx.out.c2
          have dF0 : wx.drew.cell? ⟨F, 0, none⟩ = some (.int .i64 3) := kF0
          have dF1 : wx.drew.cell? ⟨F, 1, none⟩ = some (.int .i64 fn) := kF1
          have dF2 : wx.drew.cell? ⟨F, 2, none⟩ = some (.slice (some ⟨r3, 0, none⟩) 1 c3) := kF2
          clear k0 k1 k2 hcur hlast
          go_upto_region 5 with fail
          have hWm : IntKind.i64.wrap (m : Int) = (m : Int) := by rw [IntKind.wrap_i64]; omega
          have hWn : m < n1 := by omega
          have p0' : wx.cell? ⟨r, m * 3, none⟩ = some a0 := p0
          have p1' : wx.cell? ⟨r, m * 3 + 1, none⟩ = some a1 := p1
          have p2' : wx.cell? ⟨r, m * 3 + 2, none⟩ = some a2 := p2
          have pf' : ∀ i, wx.frozen? ⟨r, i, none⟩ = false := pf
          go_region
          clear p0 p1 p2 pf p0' p1' p2' pf' d2 dF0 dF1 dF2 hrx kF0 kF1 kF2
          obtain ⟨w5, ew5⟩ : ∃ w5, Hid ((sf3 wx r (m * 3) 3 fn (.slice (some ⟨r3, 0, none⟩) 1 c3)).drew = w5) := ⟨_, (rfl : _ = _)⟩
          have ew5' : ((((wx.setCell ⟨r, m * 3, none⟩ (.int .i64 3)).setCell ⟨r, m * 3 + 1, none⟩ (.int .i64 fn)).setCell ⟨r, m * 3 + 2, none⟩ (.slice (some ⟨r3, 0, none⟩) 1 c3)).drew) = w5 := ew5.out
          rw [ew5']
          clear ew5'
          have b5 : Hid (∀ b, b ≠ r → w5.heap[b]? = wx.heap[b]?) := fun b hb => by rw [← ew5.out]; exact sf3_blk wx r (m * 3) 3 fn _ hb
          have s5 : Hid (w5.heap.size = wx.heap.size) := by show _ = _; rw [← ew5.out]; exact sf3_size wx r (m * 3) 3 fn _
          have Z5 : Hid (Pz w5 g l q (.slice (some ⟨r, 0, none⟩) n1 sc)) := ⟨(b5.out g (fun e => hrg (by rw [e]))).trans Zx.out.b⟩
          have Y5 : Hid (Bo w5 (R + 1) 0 0 (.slice none 0 0)) := ⟨(b5.out (R + 1) (by rw [← hR.out]; omega)).trans Yx.out.b⟩
          have HO : Hid (Os (fun b => ((g + 1 ≤ b ∧ b ≠ X) ∧ b ≠ r) ∧ b ≠ R + 1) wx ⟨f.k, f.n, [t]⟩ (.agg #[.int .i64 f.k, .int .i64 f.n, .slice (some ⟨r3, 0, none⟩) 1 c3])) := by
            have ho := hEN.out.o
            have el : f.ks.length + 1 = 1 := by rw [hks.out]; rfl
            rw [el, hks.out] at ho
            exact Os.keep (fun b hb => ⟨⟨hb.1.1, hb.1.2.1⟩, hb.1.2.2.2⟩) (fun _ _ _ => rfl) _ _ ho
          have sx5 : Hid (wx.heap.size ≤ w5.heap.size) := by rw [s5.out]; exact Nat.le_refl _
          have C5 : Hid (∀ b, b < w.heap.size → b ≠ g → b ≠ r → w5.heap[b]? = w.heap[b]?) := fun b hb h1 h2 => (b5.out b h2).trans (Gx.out.block b hb (fun e => h1 (Option.some.inj e)))
          have hos : Hid (w5.os = w.os ∧ w5.tape = w.tape ∧ w5.output = w.output ∧ w.heap.size ≤ w5.heap.size) := by
            show _ ∧ _ ∧ _ ∧ _
            rw [s5.out, ← ew5.out]
            exact ⟨Gx.out.os, Gx.out.tape, Gx.out.output, Gx.out.size⟩
          clear Zx Xx Yx hbx hBx hEN b5 s5
          have hcI : Hid (Calls Tryd.prog 36 #[.pointer (some ⟨g, 0, none⟩), .string ⟨#[32, 120, 32]⟩] w5 fun e w' => e = .returned (.bool (decide (Ps.mt Ps.sx (l.drop q) = 3))) ∧ Pz w' g l (q + Ps.mt Ps.sx (l.drop q)) (.slice (some ⟨r, 0, none⟩) n1 sc) ∧ w5.grownBy w' (some g)) := ris_c g q l Ps.sx _ w5 Z5.out hl hql (by decide)
          go_wp2_with fail
          refine hcI.out.mono ?_
          rintro e w6 ⟨rfl, z6, g6⟩
          obtain ⟨MM, hMM⟩ : ∃ MM, Hid (Ps.mt Ps.sx (l.drop q) = MM) := ⟨_, (rfl : _ = _)⟩
          rw [hMM.out] at z6
          rw [hMM.out]
          have hM2 : Hid (q + MM ≤ l.length) := by
            have := Ps.mt_le2 Ps.sx (l.drop q)
            rw [List.length_drop, hMM.out] at this
            show q + MM ≤ l.length
            omega
          have Y6 : Hid (Bo w6 (R + 1) 0 0 (.slice none 0 0)) := Y5.out.gb g6 (by omega)
          have Z6 : Hid (Pz w6 g l (q + MM) (.slice (some ⟨r, 0, none⟩) n1 sc)) := z6
          have G6 : Hid (Gq X (g + 1) (st3 w6 (R + 1) 0 0 (.slice none 0 0)) (.slice (some ⟨r, 0, none⟩) n1 sc) (fs.take m ++ [⟨f.k, f.n, [t]⟩]) (ss.take m ++ [.slice (some ⟨r3, 0, none⟩) 1 c3])) := by
            have hh := hqH.out.back2 (R1 := R + 1) (W' := st3 w6 (R + 1) 0 0 (.slice none 0 0)) hfmH.out (fun b hb hn => Gx.out.block b hb (fun e => hn (Option.some.inj e))) Gx.out.size ⟨_, _, _, rfl⟩ HO.out (by rw [hR.out]; omega) (fun b hb h1 h2 => by
              rw [st3_blk _ _ _ _ _ h2, g6.block b (Nat.lt_of_lt_of_le hb sx5.out) (fun e => h1 (Option.some.inj e)), ← ew5.out, hfk.out, hfn.out]
              rfl)
            rw [hn1.out]
            exact hh
          have C6 : Hid (∀ b, b < w.heap.size → b ≠ g → b ≠ r → w6.heap[b]? = w.heap[b]?) := fun b hb h1 h2 => (g6.block b (Nat.lt_of_lt_of_le hb hos.out.2.2.2) (fun e => h1 (Option.some.inj e))).trans (C5.out b hb h1 h2)
          have hos6 : Hid (w6.os = w.os ∧ w6.tape = w.tape ∧ w6.output = w.output ∧ w.heap.size ≤ w6.heap.size) := ⟨g6.os.trans hos.out.1, g6.tape.trans hos.out.2.1, g6.output.trans hos.out.2.2.1, Nat.le_trans hos.out.2.2.2 g6.size⟩
          clear hcI z6 g6 Y5 Z5 C5 hos HO sx5
          have hPS : Hid (PS X w (.slice (some ⟨r, 0, none⟩) fs.length sc) (st3 w6 (R + 1) 0 0 (.slice none 0 0)) g l (q + MM) (.slice (some ⟨r, 0, none⟩) n1 sc) (fs.take m ++ [⟨f.k, f.n, [t]⟩]) (ss.take m ++ [.slice (some ⟨r3, 0, none⟩) 1 c3])) := by
            refine ⟨⟨by rw [st3_blk _ _ _ _ _ (by omega)]; exact Z6.out.b⟩, ?_, ⟨hos6.out.1, hos6.out.2.1, hos6.out.2.2.1, by rw [st3_size]; exact hos6.out.2.2.2, fun b hb h1 h2 => ?_⟩, fun b hb => .inl hb, hM2.out, ?_⟩
            · exact G6.out
            · rw [st3_blk _ _ _ _ _ (by rw [← hR.out]; omega)]
              exact C6.out b hb h1 (fun e => h2 (by rw [e]; rfl))
            · rw [List.length_append, List.length_take]; simp; omega
          have y0 := Y6.out.c0
          have y1 := Y6.out.c1
          have y2 := Y6.out.c2
          have yf := Y6.out.fz
          have hk3 : Hid (f = ⟨3, f.n, []⟩) := by
            show f = _
            have h1 := hfk.out
            have h2 := hks.out
            obtain ⟨a, b, c⟩ := f
            dsimp only at h1 h2
            rw [h1, h2]
          have hPk : Hid (Ps.kont l fs.reverse (some t0, p) = Ps.kont l (f :: (fs.take m).reverse) (some t, q)) := by show _ = _; rw [hK.out, hrev.out]
          by_cases hM : MM = 3
          · rw [decide_eq_true hM]
            have hfin : Hid (EE X g l p fs (.slice (some ⟨r, 0, none⟩) fs.length sc) t0 w (.returned (.tuple #[zor, .bool false, .bool true])) (st3 w6 (R + 1) 0 0 (.slice none 0 0))) := by
              refine ⟨_, _, _, q + MM, zor, false, true, rfl, hPS.out, by omega, .inr (.inr ⟨rfl, rfl, by omega, ?_⟩), _, _, _, _, _, rfl⟩
              rw [hPk.out, hk3.out, Ps.k_first _ _ _ (by rw [hMM.out]; omega), hM]
              simp
            clear hPk hk3 hPS hM
            go_wp2_with fail
            refine bodyPost_ret (v := .tuple #[zor, .bool false, .bool true]) (by simp [results, Tryd.results24, go_sem, y0, y1, y2, zor]) rfl ?_
            exact hfin.out
          · rw [decide_eq_false hM]
            have hfin : Hid (EE X g l p fs (.slice (some ⟨r, 0, none⟩) fs.length sc) t0 w (.returned (.tuple #[zor, .bool false, .bool false])) (st3 w6 (R + 1) 0 0 (.slice none 0 0))) := by
              refine ⟨_, _, _, q + MM, zor, false, false, rfl, hPS.out, by omega, .inl ⟨rfl, ?_⟩, _, _, _, _, _, rfl⟩
              have hle := Ps.mt_le1 Ps.sx (l.drop q)
              rw [hMM.out] at hle
              have hle' : MM ≤ 3 := hle
              rw [hPk.out, hk3.out, Ps.k_first_bad _ _ _ (by rw [hMM.out]; omega), hMM.out]
            clear hPk hk3 hPS hM
            go_wp2_with fail
            refine bodyPost_ret (v := .tuple #[zor, .bool false, .bool false]) (by simp [results, Tryd.results24, go_sem, y0, y1, y2, zor]) rfl ?_
            exact hfin.out
        · have hcapS : Hid (fs.length ≤ sc) := by
            obtain ⟨_, _, _, _, _, _, _, _, _, _, _, h, _⟩ := hqH.out.last hfmH.out
            exact h
          have hcH : Hid (¬ (f.k = 3 ∧ f.ks.length = 0)) := hc
          go_upto_region 4 with fail
          go_cut [47] (fun sb wy => sb = .bool false ∧ wy = wx)
          case first =>
            by_cases h3 : fk = 3
            · subst h3
              have hN1 : ((N : Int) == 1) = false := beq_eq_false_iff_ne.2 (fun e => hc ⟨hfk.out, by have := hN.out; omega⟩)
              clear hc
              go_wp2_with fail
              go_meet
              case rel => exact ⟨rfl, rfl⟩
            · have h3' : (fk == 3) = false := beq_eq_false_iff_ne.2 h3
              clear hc
              go_wp2_with fail
              go_meet
              case rel => exact ⟨rfl, rfl⟩
          case rest =>
            obtain ⟨rfl, rfl⟩ := hcut
            rename World => wx
            clear hc
            have hcI : Hid (Calls Tryd.prog 36 #[.pointer (some ⟨g, 0, none⟩), .string ⟨#[41]⟩] wx fun e w' => e = .returned (.bool (decide (Ps.mt [41] (l.drop q) = 1))) ∧ Pz w' g l (q + Ps.mt [41] (l.drop q)) (.slice (some ⟨r, 0, none⟩) n1 sc) ∧ wx.grownBy w' (some g)) := ris_c g q l [41] _ wx Zx.out hl hql (by decide)
            go_wp2_with fail
            refine hcI.out.mono ?_
            rintro e w6 ⟨rfl, z6, g6⟩
            obtain ⟨MM, hMM⟩ : ∃ MM, Hid (Ps.mt [41] (l.drop q) = MM) := ⟨_, (rfl : _ = _)⟩
            rw [hMM.out] at z6
            rw [hMM.out]
            have hM2 : Hid (q + MM ≤ l.length) := by
              have := Ps.mt_le2 [41] (l.drop q)
              rw [List.length_drop, hMM.out] at this
              show q + MM ≤ l.length
              omega
            have Y6 : Hid (Bo w6 (R + 1) 0 0 (.slice none 0 0)) := Yx.out.gb g6 (by omega)
            have X6 : Hid (Bo w6 R t.k t.n (.slice ta tl tc)) := Xx.out.gb g6 (by omega)
            have Z6 : Hid (Pz w6 g l (q + MM) (.slice (some ⟨r, 0, none⟩) n1 sc)) := z6
            have G6 : Hid (w.grownBy w6 (some g)) := gb_tr Gx.out g6
            have hb6 : Hid (w6.heap[F]? = some (.cells #[.int .i64 fk, .int .i64 fn, .slice (some ⟨r3, 0, none⟩) N c3] 71 (0, 0))) := (g6.block F hFx (fun e => by have := Option.some.inj e; omega)).trans hbx.out
            have O6 : Hid (Os (fun b => ((g + 1 ≤ b ∧ b ≠ X) ∧ b ≠ r ∧ b ≠ R ∧ b ≠ R + 1) ∧ b ≠ F) w6 ⟨f.k, f.n, f.ks ++ [t]⟩ (.agg #[.int .i64 f.k, .int .i64 f.n, .slice (some ⟨r3, 0, none⟩) (f.ks.length + 1) c3])) := hEN.out.o.gb g6 (fun b hb => by have := hb.1.1.1; omega)
            have hPk : Hid (Ps.kont l fs.reverse (some t0, p) = Ps.kont l (f :: (fs.take m).reverse) (some t, q)) := by show _ = _; rw [hK.out, hrev.out]
            clear hcI z6 g6 Yx Xx Zx hbx hBx hEN Gx kF0 kF1 kF2
            by_cases hM : MM = 1
            · rw [decide_eq_true hM]
              subst hM
              have hkt : Hid (Ps.kont l fs.reverse (some t0, p) = Ps.kont l (fs.take m).reverse (some ⟨f.k, f.n, f.ks ++ [t]⟩, q + 1)) := by
                show _ = _
                rw [hPk.out, Ps.k_shut _ _ _ hcH.out (by rw [hMM.out]; omega)]
              have hWm : IntKind.i64.wrap (m : Int) = (m : Int) := by rw [IntKind.wrap_i64]; omega
              have hcap1 : m ≤ sc := by have := hcapS.out; omega
              have hcap2 : (m : Int) ≤ (sc : Int) := by omega
              have hcap3 : ¬ sc = 0 := by have := hcapS.out; omega
              have d2 : w6.cell? ⟨g, 2, none⟩ = some (.slice (some ⟨r, 0, none⟩) n1 sc) := Z6.out.c2
              have df : ∀ i, w6.frozen? ⟨g, i, none⟩ = false := Z6.out.fz
              have e2 : w6.drew.cell? ⟨g, 2, none⟩ = some (.slice (some ⟨r, 0, none⟩) n1 sc) := Z6.out.c2
              have ef : ∀ i, w6.drew.frozen? ⟨g, i, none⟩ = false := Z6.out.fz
              clear hPk
              go_upto_region 10 with fail
              go_region
              obtain ⟨w7, ew7⟩ : ∃ w7, Hid ((w6.setCell ⟨g, 2, none⟩ (.slice (some ⟨r, 0, none⟩) m sc)).drew = w7) := ⟨_, (rfl : _ = _)⟩
              rw [ew7.out]
              have b7 : Hid (∀ b, b ≠ g → w7.heap[b]? = w6.heap[b]?) := fun b hb => by rw [← ew7.out]; exact sc_blk w6 2 _ hb
              have Z7 : Hid (Pz w7 g l (q + 1) (.slice (some ⟨r, 0, none⟩) m sc)) := ⟨by
                rw [← ew7.out]
                show (w6.setCell ⟨g, 2, none⟩ (.slice (some ⟨r, 0, none⟩) m sc)).heap[g]? = _
                rw [Joins.block_setCell Z6.out.b]; rfl⟩
              have X7 : Hid (Bo w7 R t.k t.n (.slice ta tl tc)) := ⟨(b7.out R (by omega)).trans X6.out.b⟩
              have Y7 : Hid (Bo w7 (R + 1) 0 0 (.slice none 0 0)) := ⟨(b7.out (R + 1) (by omega)).trans Y6.out.b⟩
              have hb7 : Hid (w7.heap[F]? = some (.cells #[.int .i64 fk, .int .i64 fn, .slice (some ⟨r3, 0, none⟩) N c3] 71 (0, 0))) := (b7.out F (by omega)).trans hb6.out
              have G7 : Hid (w.grownBy w7 (some g)) := by
                show w.grownBy w7 (some g)
                rw [← ew7.out]
                exact gb_drew (Lib.Hx.grownBy_set G6.out ⟨g, 2, none⟩ rfl _) 1
              have O7 : Hid (Os (fun b => (g + 1 ≤ b ∧ b ≠ X) ∧ some b ≠ (Value.slice (some ⟨r, 0, none⟩) 0 0).ownBlock ∧ b ≠ R ∧ b ≠ R + 1) (st3 w7 R fk fn (.slice (some ⟨r3, 0, none⟩) N c3)) ⟨f.k, f.n, f.ks ++ [t]⟩ (.agg #[.int .i64 f.k, .int .i64 f.n, .slice (some ⟨r3, 0, none⟩) N c3])) := by
                have h1 := O6.out
                rw [hN.out] at h1
                refine Os.keep (fun b hb => ⟨hb.1.1, fun e => hb.1.2.1 (Option.some.inj e), hb.1.2.2⟩) (fun b hb _ => ?_) _ _ h1
                rw [st3_blk _ _ _ _ _ hb.1.2.2.1]
                exact b7.out b (by have := hb.1.1.1; omega)
              have k0 : w7.cell? ⟨F, 0, none⟩ = some (.int .i64 fk) := Joins.cell_of_block hb7.out 0
              have k1 : w7.cell? ⟨F, 1, none⟩ = some (.int .i64 fn) := Joins.cell_of_block hb7.out 1
              have k2 : w7.cell? ⟨F, 2, none⟩ = some (.slice (some ⟨r3, 0, none⟩) N c3) := Joins.cell_of_block hb7.out 2
              have x0 := X7.out.c0
              have x1 := X7.out.c1
              have x2 := X7.out.c2
              have xf := X7.out.fz
              obtain ⟨tk, htk⟩ : ∃ tk, Hid (t.k = tk) := ⟨_, (rfl : _ = _)⟩
              obtain ⟨tn, htn⟩ : ∃ tn, Hid (t.n = tn) := ⟨_, (rfl : _ = _)⟩
              rw [htk.out] at x0
              rw [htn.out] at x1
              have hrel : Hid (∃ (n q' : Nat) (t' : Tr) (ta' : Option Addr) (tl' tc' : Nat), n ≤ fs.length ∧ p ≤ q' ∧ q' ≤ l.length ∧ Hid (w.grownBy (st3 w7 R fk fn (.slice (some ⟨r3, 0, none⟩) N c3)) (some g)) ∧ Hid (Pz (st3 w7 R fk fn (.slice (some ⟨r3, 0, none⟩) N c3)) g l q' (.slice (some ⟨r, 0, none⟩) n sc)) ∧ Hid (Bo (st3 w7 R fk fn (.slice (some ⟨r3, 0, none⟩) N c3)) R t'.k t'.n (.slice ta' tl' tc')) ∧ Hid (Bo (st3 w7 R fk fn (.slice (some ⟨r3, 0, none⟩) N c3)) (R + 1) 0 0 (.slice none 0 0)) ∧ Hid (Os (fun b => (g + 1 ≤ b ∧ b ≠ X) ∧ some b ≠ (Value.slice (some ⟨r, 0, none⟩) 0 0).ownBlock ∧ b ≠ R ∧ b ≠ R + 1) (st3 w7 R fk fn (.slice (some ⟨r3, 0, none⟩) N c3)) t' (.agg #[.int .i64 t'.k, .int .i64 t'.n, .slice ta' tl' tc'])) ∧ Hid (Ps.kont l fs.reverse (some t0, p) = Ps.kont l (fs.take n).reverse (some t', q'))) := by
                refine ⟨m, q + 1, ⟨f.k, f.n, f.ks ++ [t]⟩, some ⟨r3, 0, none⟩, N, c3, by omega, by omega, hM2.out, st3_gb (by rw [hR.out]; exact Nat.le_refl _) G7.out, ⟨by rw [st3_blk _ _ _ _ _ (by omega)]; exact Z7.out.b⟩, ?_, ⟨by rw [st3_blk _ _ _ _ _ (by omega)]; exact Y7.out.b⟩, O7, hkt⟩
                have h1 := st3_bo X7.out fk fn (.slice (some ⟨r3, 0, none⟩) N c3)
                show Bo _ R f.k f.n _
                rw [hfk.out, hfn.out]
                exact h1
              have hmeas : Hid (opn g (st3 w7 R fk fn (.slice (some ⟨r3, 0, none⟩) N c3)) = m) := opn_of (sa := some ⟨r, 0, none⟩) (sc := sc) (l := l) (p := q + 1) ⟨by rw [st3_blk _ _ _ _ _ (by omega)]; exact Z7.out.b⟩
              have hmeas2 : Hid (opn g wr = n1) := opn_of hZ.out
              clear O7 G7 Z7 X7 Y7 hb7 b7 ew7 d2 df e2 ef hkt
              go_wp2_with fail
              go_roundw
              case rel => exact hrel.out
              case measure =>
                show opn g (st3 w7 R fk fn (.slice (some ⟨r3, 0, none⟩) N c3)) < opn g wr
                rw [hmeas.out, hmeas2.out, hn1.out]
                omega
            · rw [decide_eq_false hM]
              have hM0 : MM = 0 := by
                have hle := Ps.mt_le1 [41] (l.drop q)
                rw [hMM.out] at hle
                have hle' : MM ≤ 1 := hle
                omega
              subst hM0
              have hfin : Hid (EE X g l p fs (.slice (some ⟨r, 0, none⟩) fs.length sc) t0 w (.returned (.tuple #[zor, .bool false, .bool false])) (st3 w6 (R + 1) 0 0 (.slice none 0 0))) := by
                have hG1 : w.grownBy (st3 w6 (R + 1) 0 0 (.slice none 0 0)) (some g) := st3_gb (by rw [hR.out]; omega) G6.out
                refine ⟨.slice (some ⟨r, 0, none⟩) (m + 1) sc, ss.take (m + 1), fs.take (m + 1), q, zor, false, false, rfl, ⟨⟨?_⟩, (hqH.out.cut hn).gb hG1 (by omega), Ch.gb hG1, fun b hb => .inl hb, hql, by rw [List.length_take]; omega⟩, hpq, .inl ⟨rfl, ?_⟩, _, _, _, _, _, rfl⟩
                · rw [st3_blk _ _ _ _ _ (by omega)]
                  have := Z6.out.b
                  rw [hn1.out, Nat.add_zero] at this
                  exact this
                · rw [hPk.out, Ps.k_shut_bad _ _ _ hcH.out (by rw [hMM.out]; omega)]
              have y0 := Y6.out.c0
              have y1 := Y6.out.c1
              have y2 := Y6.out.c2
              have yf := Y6.out.fz
              clear hPk hM
              go_wp2_with fail
              refine bodyPost_ret (v := .tuple #[zor, .bool false, .bool false]) (by simp [results, Tryd.results24, go_sem, y0, y1, y2, zor]) rfl ?_
              exact hfin.out
end Go.Proofs.YtfoblbpbhldngaaDoor
