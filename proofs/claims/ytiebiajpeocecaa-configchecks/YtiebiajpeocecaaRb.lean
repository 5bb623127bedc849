/- Contract of the document's right, whole. -/
import Derived.Test.YtiebiajpeocecaaR
namespace Go.Proofs.Ytiebiajpeocecaa
open Go.RowKit Go.Sort

set_option maxRecDepth 20000 in
set_option maxHeartbeats 2000000 in
theorem right_4 (c : Cf) (s : Value) (n : Nat) (P : Nat → Pc) (w : World) (hs : QIn w s n P) (e1 : stB c.pr 4096 61440 = true) (e2 : inR c.a c.m c.h c.d = true) (e7 : isC c.m c.h c.d = true) (e8 : rgC c n = true) : Calls Try.prog 10 #[.agg (c.cells s)] w fun e w' => e = .returned (.int .i64 (cfgE c P n)) ∧ Below w.heap.size w w' := by
  have TW := Lib.hid (two_of c s w)
  have HB := Lib.hid (below_of c s w)
  have v0 := var_new w (c.cells s) 28
  obtain ⟨-, -, -, -, -, -, -, ba, bm, bh, bd, -, -, -, -⟩ := v0.box
  have t0 := TW.out.t.cell 0
  have t1 := TW.out.t.cell 1
  have t2 := TW.out.t.cell 2
  have t3 := TW.out.t.cell 3
  simp at t0 t1 t2 t3
  obtain ⟨fx0, -, -, -, -, -, fp, -, -, -, -, fho, -, fag, fps⟩ := TW.out.v.box
  obtain ⟨q, hq, z0, z1, z2, z3, z4, z5, z6, z7, z8, z9, X, Y, U, Z, e3, e4, e5, e6, i0, i1⟩ := two_cases e1 e2
  rw [hq] at fp
  have HE : Hid (cfgE c P n = errQ P n) := Lib.hid (by unfold cfgE; rw [e1, e2, e7, e8]; rfl)
  obtain ⟨y0, y1⟩ := i1 e7
  obtain ⟨g0, g1, g2, g3, g4, g5⟩ := four_cases e8
  have HS := Lib.hid (hs.below HB.out)
  obtain ⟨ad, cap, rfl, _⟩ := hs
  clear i0 i1 e7 e8 e1 e2 v0 hq
  generalize cfgE c P n = E at *
  obtain ⟨x, pr, a, m, h, d, ho, rs, ag⟩ := c
  simp only at *
  generalize Cf.cells ⟨x, pr, a, m, h, d, ho, rs, ag⟩ (.slice ad n cap) = C at *
  generalize x 0 = x0 at *
  go_enter Try.func10, Try.ntmps10
  go_wp2_with fail
  clear fx0 fp fho fag fps t0 t1 t2 t3 ba bm bh bd z0 z1 z2 z3 z4 z5 z6 z7 z8 z9 y0 y1 g0 g1 g2 g3 g4 e3 e4 e5 e6 TW
  generalize (w.alloc (.cells C 28)).alloc (.cells (tmC a m h d) 25) = W at *
  obtain ⟨ad', cap', e, _, h1⟩ := HS.out
  cases e
  have H1 := Lib.hid h1
  clear h1 HS
  go_loopw [110] (fun i wr => ∃ k : Nat, k ≤ n ∧ i = .int .i64 k ∧ Below W.heap.size W wr ∧ ∀ j, j < k → badP (P j) = false) (fun i _ => n - (intOf i).toNat)
  case atStart => exact ⟨0, Nat.zero_le _, rfl, Below.refl _ _, fun j hj => absurd hj (by omega)⟩
  case round =>
    obtain ⟨k, hk, rfl, hb, hz⟩ := hrel
    have HB9 := Lib.hid hb
    have HZ := Lib.hid hz
    clear hb hz
    by_cases hlt : k < n
    · obtain ⟨b, o, rfl, hc⟩ := H1.out (by omega)
      have hix := idx26 b o n cap k hlt
      have hbl : b < W.heap.size := block_lt_of_cell (hc 0 (by omega) 0 (by omega))
      have f0 : wr.cell? ⟨b, o + k * 5, none⟩ = some (.int .i64 (P k).pr) := by rw [HB9.out.cell (by exact hbl)]; exact hc k hlt 0 (by omega)
      have f1 : wr.cell? ⟨b, o + k * 5 + 1, none⟩ = some (.int .u32 (P k).co) := by rw [HB9.out.cell (by exact hbl)]; exact hc k hlt 1 (by omega)
      have f2 : wr.cell? ⟨b, o + k * 5 + 2, none⟩ = some (.bool (P k).ed) := by rw [HB9.out.cell (by exact hbl)]; exact hc k hlt 2 (by omega)
      have f3 : wr.cell? ⟨b, o + k * 5 + 3, none⟩ = some (.bool (P k).au) := by rw [HB9.out.cell (by exact hbl)]; exact hc k hlt 3 (by omega)
      have f4 : wr.cell? ⟨b, o + k * 5 + 4, none⟩ = some (.int .i64 (P k).pt) := by rw [HB9.out.cell (by exact hbl)]; exact hc k hlt 4 (by omega)
      clear hc hbl
      have HN := Lib.hid (HB9.out.trans ((box_below wr (.cells (P k).cells 34)).mono HB9.out.size))
      cases hb : badP (P k)
      · have hz' : Hid (∀ j, j < k + 1 → badP (P j) = false) := Lib.hid fun j hj => by
          by_cases e : j = k
          · rw [e]; exact hb
          · exact HZ.out j (by omega)
        obtain ⟨q, hq, b0, b1, b2, b3, b4, b5⟩ := good_cases hb
        rw [hq] at f0
        simp only [Pc.cells, hq] at HN
        clear hb hq
        generalize (P k).co = co at *
        generalize (P k).pt = pt at *
        generalize (P k).ed = ed at *
        generalize (P k).au = au at *
        go_wp2_with fail
        exact ⟨⟨k + 1, by omega, by go_num, HN.out, hz'.out⟩, by simp [intOf]; omega⟩
      · have HQ := Lib.hid (errQ_bad hlt hb)
        rcases bad_cases hb with b0 | ⟨q, hq, hc0⟩
        · simp only [Pc.cells] at HN
          generalize (P k).pr = pr at *
          clear hb
          generalize (P k).co = co at *
          generalize (P k).pt = pt at *
          generalize (P k).ed = ed at *
          generalize (P k).au = au at *
          go_wp2_with fail
          go_ret
          exact ⟨ret_int (HE.out.trans HQ.out).symm, HB.out.trans (HN.out.mono HB.out.size)⟩
        rw [hq] at f0
        simp only [Pc.cells, hq] at HN
        clear hq
        have b00 : decide ((q : Int) < 0) = false := by simp
        rcases hc0 with b0 | ⟨b1, hc0⟩
        · clear hb
          generalize (P k).co = co at *
          generalize (P k).pt = pt at *
          generalize (P k).ed = ed at *
          generalize (P k).au = au at *
          go_wp2_with fail
          go_ret
          exact ⟨ret_int (HE.out.trans HQ.out).symm, HB.out.trans (HN.out.mono HB.out.size)⟩
        rcases hc0 with b0 | ⟨b2, hc0⟩
        · clear hb
          generalize (P k).co = co at *
          generalize (P k).pt = pt at *
          generalize (P k).ed = ed at *
          generalize (P k).au = au at *
          go_wp2_with fail
          go_ret
          exact ⟨ret_int (HE.out.trans HQ.out).symm, HB.out.trans (HN.out.mono HB.out.size)⟩
        rcases hc0 with b0 | ⟨b3, hc0⟩
        · clear hb
          generalize (P k).co = co at *
          generalize (P k).pt = pt at *
          generalize (P k).ed = ed at *
          generalize (P k).au = au at *
          go_wp2_with fail
          go_ret
          exact ⟨ret_int (HE.out.trans HQ.out).symm, HB.out.trans (HN.out.mono HB.out.size)⟩
        rcases hc0 with b0 | ⟨b4, hc0⟩
        · clear hb
          generalize (P k).co = co at *
          generalize (P k).pt = pt at *
          generalize (P k).ed = ed at *
          generalize (P k).au = au at *
          go_wp2_with fail
          go_ret
          exact ⟨ret_int (HE.out.trans HQ.out).symm, HB.out.trans (HN.out.mono HB.out.size)⟩
        clear hb
        generalize (P k).co = co at *
        generalize (P k).pt = pt at *
        generalize (P k).ed = ed at *
        generalize (P k).au = au at *
        go_wp2_with fail
        go_ret
        exact ⟨ret_int (HE.out.trans HQ.out).symm, HB.out.trans (HN.out.mono HB.out.size)⟩
    · have hkn : k = n := by omega
      subst hkn
      have HQ := Lib.hid (errQ_ok HZ.out)
      go_wp2_with fail
      go_ret
      exact ⟨ret_int (HE.out.trans HQ.out).symm, HB.out.trans (HB9.out.mono HB.out.size)⟩
theorem right_doc_any (c : Cf) (s : Value) (n : Nat) (P : Nat → Pc) (w : World) (hx : ∀ i, c.x i < 256) (hs : QIn w s n P) : Calls Try.prog 10 #[.agg (c.cells s)] w fun e w' => e = .returned (.int .i64 (cfgE c P n)) ∧ Below w.heap.size w w' := by
  cases e1 : (stB c.pr 4096 61440 && inR c.a c.m c.h c.d)
  · exact right_1 c s n P w e1
  · rw [Bool.and_eq_true] at e1
    cases e7 : isC c.m c.h c.d
    · exact right_2 c s n P w e1.1 e1.2 e7
    · cases e8 : rgC c n
      · exact right_3 c s n P w hx hs e1.1 e1.2 e7 e8
      · exact right_4 c s n P w hs e1.1 e1.2 e7 e8
end Go.Proofs.Ytiebiajpeocecaa
