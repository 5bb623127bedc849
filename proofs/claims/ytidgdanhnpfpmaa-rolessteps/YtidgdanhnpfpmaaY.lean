/- What becomes of a port; setRoot for any root; contract of Update for no bridge. -/
import Derived.Test.YtidgdanhnpfpmaaQ
import Derived.Test.YtidgdanhnpfpmaaU
namespace Go.Proofs.Ytidgdanhnpfpmaa
open Go.RowKit Go.Sort

theorem desA_size (B : Bd) (q : Nat) (A : Array Value) (o : Nat) : (desA B q A o).size = A.size := by unfold desA; simp only [putL_size]
theorem rolA_size (B : Bd) (x : Pd) (q : Bool) (A : Array Value) (o : Nat) : (rolA B x q A o).size = A.size := by
  unfold rolA; (repeat' split) <;> simp only [putL_size]
theorem desA_sub {B : Bd} {q : Nat} {A xs : Array Value} {o : Nat} (h : Sub A o xs) (hx : xs.size = 90) (hA : o + 90 ≤ A.size) : Sub (desA B q A o) o (desA B q xs 0) := by
  unfold desA
  simp only [Nat.zero_add]
  exact Sub.put (Sub.put (Sub.put h hx hA 48 _ (by simp)) (by rw [putL_size]; exact hx) (by rw [putL_size]; exact hA) 60 _ (by simp)) (by simp only [putL_size]; exact hx) (by simp only [putL_size]; exact hA) 62 _ (by simp)
theorem desA_out (B : Bd) (q : Nat) (A : Array Value) (o : Nat) : Out A (desA B q A o) o := by
  unfold desA
  exact ((Out.put A o 48 _ (by simp)).trans (Out.put _ o 60 _ (by simp))).trans (Out.put _ o 62 _ (by simp))
theorem rolA_sub {B : Bd} {x : Pd} {q : Bool} {A xs : Array Value} {o : Nat} (h : Sub A o xs) (hx : xs.size = 90) (hA : o + 90 ≤ A.size) : Sub (rolA B x q A o) o (rolA B x q xs 0) := by
  unfold rolA
  simp only [Nat.zero_add]
  have one : ∀ v, Sub (putL A (o + 47) [v]) o (putL xs 47 [v]) := fun v => Sub.put h hx hA 47 _ (by simp)
  have two : ∀ v u, Sub (putL (putL A (o + 47) [v]) (o + 43) [u]) o (putL (putL xs 47 [v]) 43 [u]) := fun v u => Sub.put (one v) (by rw [putL_size]; exact hx) (by rw [putL_size]; exact hA) 43 _ (by simp)
  (repeat' split)
  · exact one _
  · exact two _ _
  · exact two _ _
  · exact one _
  · exact two _ _
  · exact h
theorem rolA_out (B : Bd) (x : Pd) (q : Bool) (A : Array Value) (o : Nat) : Out A (rolA B x q A o) o := by
  unfold rolA
  have one : ∀ v, Out A (putL A (o + 47) [v]) o := fun v => Out.put A o 47 _ (by simp)
  have two : ∀ v u, Out A (putL (putL A (o + 47) [v]) (o + 43) [u]) o := fun v u => (one v).trans (Out.put _ o 43 _ (by simp))
  (repeat' split)
  · exact one _
  · exact two _ _
  · exact two _ _
  · exact one _
  · exact two _ _
  · exact Out.refl _ _
/-- What becomes of a port. -/
def newP (B : Bd) (x : Pd) (q : Bool) (xs : Array Value) : Array Value := rolA B x q (desA B x.id xs 0) 0
theorem newP_size (B : Bd) (x : Pd) (q : Bool) (xs : Array Value) : (newP B x q xs).size = xs.size := by unfold newP; rw [rolA_size, desA_size]
theorem desA_at {B : Bd} {q : Nat} {xs : Array Value} (_hx : xs.size = 90) (j : Nat) (hj : ¬ (48 ≤ j ∧ j < 52) ∧ ¬ (60 ≤ j ∧ j < 64)) : (desA B q xs 0)[j]? = xs[j]? := by
  unfold desA
  rw [putL_at, if_neg (by simp; omega), putL_at, if_neg (by simp; omega), putL_at, if_neg (by simp; omega)]
section
variable {B : Bd} {q : Nat} {xs : Array Value} (hx : xs.size = 90)
include hx
theorem des48 : (desA B q xs 0)[48]? = some (.int .u64 B.r) := by simp only [desA, putL_at, putL_size]; simp [hx]
theorem des49 : (desA B q xs 0)[49]? = some (.int .u32 B.c) := by simp only [desA, putL_at, putL_size]; simp [hx]
theorem des50 : (desA B q xs 0)[50]? = some (.int .u64 B.id) := by simp only [desA, putL_at, putL_size]; simp [hx]
theorem des51 : (desA B q xs 0)[51]? = some (.int .u16 q) := by simp only [desA, putL_at, putL_size]; simp [hx]
theorem des60 : (desA B q xs 0)[60]? = some (.int .i64 B.ra) := by simp only [desA, putL_at, putL_size]; simp [hx]
theorem des61 : (desA B q xs 0)[61]? = some (.int .i64 B.rm) := by simp only [desA, putL_at, putL_size]; simp [hx]
theorem des62 : (desA B q xs 0)[62]? = some (.int .i64 B.h) := by simp only [desA, putL_at, putL_size]; simp [hx]
theorem des63 : (desA B q xs 0)[63]? = some (.int .i64 B.rd) := by simp only [desA, putL_at, putL_size]; simp [hx]
end
/-- What setRole asks of the world, where setDesignated is done. -/
theorem SP_of {B : Bd} {x : Pd} {xs A : Array Value} {bb pb o : Nat} {s : Value} {w : World} (hbb : VarAt w bb (B.cells s) 34) (hpb : VarAt w pb A 50) (hs : Sub A o (desA B x.id xs 0)) (hx : x.In xs) : SP B x bb pb o w := by
  have c : ∀ k, k < 90 → w.cell? ⟨pb, o + k, none⟩ = (desA B x.id xs 0)[k]? := fun k hk => by rw [hpb.cell]; exact hs k hk
  have d : ∀ k, k < 90 → (¬ (48 ≤ k ∧ k < 52) ∧ ¬ (60 ≤ k ∧ k < 64)) → w.cell? ⟨pb, o + k, none⟩ = xs[k]? := fun k hk hj => by rw [c k hk, desA_at hx.size k hj]
  refine ⟨hbb.cell 0, ?_, ?_, ?_, ?_, ?_, ?_, ?_, ?_, ?_, ?_, ?_, ?_, ?_, ?_, ?_, ?_⟩
  · rw [c 48 (by omega)]; exact des48 hx.size
  · rw [c 49 (by omega)]; exact des49 hx.size
  · rw [c 50 (by omega)]; exact des50 hx.size
  · rw [c 51 (by omega)]; exact des51 hx.size
  · rw [d 56 (by omega) (by omega)]; exact hx.vr
  · rw [d 57 (by omega) (by omega)]; exact hx.vc
  · rw [d 58 (by omega) (by omega)]; exact hx.vb
  · rw [d 59 (by omega) (by omega)]; exact hx.vp
  · rw [c 60 (by omega)]; exact des60 hx.size
  · rw [c 61 (by omega)]; exact des61 hx.size
  · rw [c 62 (by omega)]; exact des62 hx.size
  · rw [c 63 (by omega)]; exact des63 hx.size
  · rw [d 68 (by omega) (by omega)]; exact hx.a
  · rw [d 69 (by omega) (by omega)]; exact hx.m
  · rw [d 70 (by omega) (by omega)]; exact hx.h
  · rw [d 71 (by omega) (by omega)]; exact hx.d
/-- What becomes of a bridge, but for its ports. -/
def rootB (B : Bd) (X : Nat → Pd) (r : Int) : Bd :=
  if r = -1 then B.own else B.put (X r.toNat).vr (sat (X r.toNat).vc (X r.toNat).cost) (X r.toNat).vb (X r.toNat).vp (X r.toNat).id (wrap64 ((X r.toNat).a + 1)) (X r.toNat).m (X r.toNat).h (X r.toNat).d
theorem rootB_id (B : Bd) (X : Nat → Pd) (r : Int) : (rootB B X r).id = B.id := by unfold rootB; split <;> rfl
theorem setRoot_any (B : Bd) (bb pb n cap : Nat) (r : Int) (A : Array Value) (XS : Nat → Array Value) (X : Nat → Pd) (w : World) (hbb : VarAt w bb (B.cells (.slice (some ⟨pb, 0, none⟩) n cap)) 34) (hpb : VarAt w pb A 50) (hps : ∀ i, i < n → Sub A (i * 90) (XS i) ∧ (X i).In (XS i) ∧ Typed (XS i)) (hr : r = -1 ∨ ∃ j : Nat, j < n ∧ r = j) :
    Calls Try.prog 28 #[.pointer (some ⟨bb, 0, none⟩), .int .i64 r] w fun e w' => e = .returned (.tuple #[]) ∧ VarAt w' bb ((rootB B X r).cells (.slice (some ⟨pb, 0, none⟩) n cap)) 34 ∧ Only bb w w' := by
  rcases hr with rfl | ⟨j, hj, rfl⟩
  · rw [show rootB B X (-1) = B.own from if_pos rfl]
    exact setRoot_none B _ bb w hbb
  · obtain ⟨hs, hx, ht⟩ := hps j hj
    rw [show rootB B X (j : Int) = B.put (X j).vr (sat (X j).vc (X j).cost) (X j).vb (X j).vp (X j).id (wrap64 ((X j).a + 1)) (X j).m (X j).h (X j).d by unfold rootB; rw [if_neg (by omega)]; rfl]
    exact setRoot_some B bb pb n cap j A (XS j) (X j) w hbb hpb hs hx ht hj
theorem update_nil (w : World) : Calls Try.prog 26 #[.pointer none] w fun e w' => e = .returned (.tuple #[]) ∧ w = w' := by
  go_enter Try.func26, Try.ntmps26
  go_wp2
  exact bodyPost_ret (v := .tuple #[]) (by simp [results, Try.results26, go_sem]) rfl ⟨rfl, rfl⟩
end Go.Proofs.Ytidgdanhnpfpmaa
