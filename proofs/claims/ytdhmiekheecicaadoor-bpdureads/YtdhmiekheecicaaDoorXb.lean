/- What bytes that came in give. -/
import Derived.Test.YtdhmiekheecicaaDoorX
namespace Go.Proofs.YtdhmiekheecicaaDoor
open Go.RowKit Go.Lib
open Go.ChangeShapes Go.WideShapes Go.ChangeAt

theorem byte_wf {n : Int} (h : (Lit.int .u8 n).wf = true) : 0 ≤ n ∧ n < 256 := by
  have e1 : IntKind.u8.min = 0 := by decide
  have e2 : IntKind.u8.max = 255 := by decide
  simp [Lit.wf, e1, e2] at h
  omega
variable {H : Type} {enc : TypeId × Value → H}
theorem trod_bytes {W : World} {fuel : Nat} {k : Value} {y : DataW H × List MemPlace} (hf : DataW.trod enc Tryd.prog W 0 (fun _ => true) true fuel 32 [k] = some y) (hlt : ∀ x ∈ y.2, x.block < W.heap.size) : ∃ l : List UInt8, Bts W W.heap.size k l := by
  rcases open_ints Tryd.underlying32 Tryd.underlying5 c5 hf with ⟨hcs, hx⟩ | ⟨a, len, cap, zs, hcs, _, hl, hm, hz, hx, hcell, hwz⟩
  · simp at hcs
    subst hcs
    exact ⟨[], .inl ⟨rfl, rfl⟩⟩
  · simp at hcs
    subst hcs
    simp only [if_true] at hz
    subst hx
    have hlen : ((zs.take len).map fun n => UInt8.ofNat n.toNat).length = len := by simp; omega
    refine ⟨(zs.take len).map fun n => UInt8.ofNat n.toNat, .inr ⟨a, cap, by rw [hlen], by rw [hlen]; exact hl, hm, fun h => ?_, fun j hj => ?_⟩⟩
    · rw [hlen] at h
      obtain ⟨ab, ao, spot⟩ := a
      exact hlt (.cell ab ao) (MemPlace.mem_row.2 ⟨0, by omega, by simp⟩)
    · rw [hlen] at hj
      rw [hcell j (by omega)]
      have e : zs.getD j 0 = zs[j]'(by omega) := by simp [List.getD, List.getElem?_eq_getElem (show j < zs.length by omega)]
      have hb := byte_wf (hwz _ (List.getElem_mem (show j < zs.length by omega)))
      rw [e]
      simp only [List.getElem_map, List.getElem_take]
      have e2 : (UInt8.ofNat (zs[j]'(by omega)).toNat).toNat = (zs[j]'(by omega)).toNat := by rw [UInt8.toNat_ofNat']; exact Nat.mod_eq_of_lt (by omega)
      unfold bV
      rw [e2, Int.toNat_of_nonneg hb.1]
theorem open_bytes {W : World} {b : Nat} {v : Value} {d : DataW H} {ps : List MemPlace} (hval : Value.okWide Tryd.prog W .any b 32 v) (hd : DataW.Trod enc Tryd.prog W 0 (fun _ => true) true 32 v d ps) (hlt : ∀ x ∈ ps, x.block < W.heap.size) : ∃ l : List UInt8, Bts W W.heap.size v l := by
  obtain ⟨a0, len, cap, rfl⟩ := okWide_slice Tryd.underlying32 hval
  obtain ⟨fuel, hf⟩ := hd
  exact trod_bytes hf hlt
end Go.Proofs.YtdhmiekheecicaaDoor
