/- Contract of behind. -/
import Derived.Test.YtidgdanhnpfpmaaL
namespace Go.Proofs.Ytidgdanhnpfpmaa
open Go.RowKit Go.Sort
/-- A vector stored into a variable of its own. -/
theorem store4 {w w1 : World} {b : Nat} {r c g p : Int} {t : TypeId} (r' c' g' p' : Int) (h : VarAt w1 b (vC r c g p) t) :
    VarAt ((((w1.setCell ⟨b, 0, none⟩ (.int .u64 r')).setCell ⟨b, 1, none⟩ (.int .u32 c')).setCell ⟨b, 2, none⟩ (.int .u64 g')).setCell ⟨b, 3, none⟩ (.int .u16 p')) b (vC r' c' g' p') t ∧
    ∀ B, B ≤ b → Below B w w1 → Below B w ((((w1.setCell ⟨b, 0, none⟩ (.int .u64 r')).setCell ⟨b, 1, none⟩ (.int .u32 c')).setCell ⟨b, 2, none⟩ (.int .u64 g')).setCell ⟨b, 3, none⟩ (.int .u16 p')) :=
  ⟨(((h.set 0 (.int .u64 r')).set 1 (.int .u32 c')).set 2 (.int .u64 g')).set 3 (.int .u16 p'), fun _ hB hb => (((hb.setCell hB _).setCell hB _).setCell hB _).setCell hB _⟩
theorem behind_any (xs : Array Value) (x : Pd) (hx : x.In xs) (w : World) :
    Calls Try.prog 32 #[.agg xs] w fun e w' => e = .returned (vV x.vr (sat x.vc x.cost) x.vb x.vp) ∧ Below w.heap.size w w' := by
  have hv := (var_new w xs 50).alloc (.cells (vC 0 0 0 0) 30)
  have hn := var_new (w.alloc (.cells xs 50)) (vC 0 0 0 0) 30
  rw [alloc_size] at hn
  have hB := (box_below w (.cells xs 50)).alloc (by simp) (.cells (vC 0 0 0 0) 30)
  have hs : ((w.alloc (.cells xs 50)).alloc (.cells (vC 0 0 0 0) 30)).heap.size = w.heap.size + 2 := by simp
  have c1 := hv.cell 1
  have c56 := hv.cell 56
  have c57 := hv.cell 57
  have c58 := hv.cell 58
  have c59 := hv.cell 59
  rw [hx.cost] at c1
  rw [hx.vr] at c56
  rw [hx.vc] at c57
  rw [hx.vb] at c58
  rw [hx.vp] at c59
  have K := through_any x.vr x.vc x.vb x.vp x.cost hx.lvc hx.lcost
  generalize sat x.vc x.cost = S at *
  have HX := Lib.hid hx
  clear hx hv
  have hk := hn.v
  go_enter Try.func32, Try.ntmps32
  go_wp2_with fail
  generalize (w.alloc (.cells xs 50)).alloc (.cells (vC 0 0 0 0) 30) = W at *
  have HB := Lib.hid hB
  have HN := Lib.hid hn
  clear hB hn
  go_wp2_with fail
  refine (K _).mono ?_
  rintro e w1 ⟨rfl, hb⟩
  have h1 := HN.out.below hb (by omega)
  have f0 := h1.frozen
  have k1 := h1.v
  have hb1 := HB.out.trans (hb.mono HB.out.size)
  have H1 := Lib.hid h1
  have HB1 := Lib.hid hb1
  clear c1 c56 c57 c58 c59 hk hb h1 hb1 hs
  obtain ⟨k0, k1, k2, k3⟩ := k1
  go_wp2_with fail
  obtain ⟨v2, b2⟩ := store4 x.vr S x.vb x.vp (w := w) H1.out
  replace b2 := b2 w.heap.size (by omega) HB1.out
  clear k0 k1 k2 k3 f0
  revert v2 b2
  generalize (((w1.setCell ⟨w.heap.size + 1, 0, none⟩ (.int .u64 x.vr)).setCell ⟨w.heap.size + 1, 1, none⟩ (.int .u32 S)).setCell ⟨w.heap.size + 1, 2, none⟩ (.int .u64 x.vb)).setCell ⟨w.heap.size + 1, 3, none⟩ (.int .u16 x.vp) = W'
  intro v2 hb2
  obtain ⟨r0, r1, r2, r3⟩ := v2.v
  exact bodyPost_ret (v := vV x.vr S x.vb x.vp) (by simp [results, Try.results32, go_sem, r0, r1, r2, r3]) rfl ⟨rfl, hb2⟩
end Go.Proofs.Ytidgdanhnpfpmaa
