/- Cells put one behind the other; ports in a block; a port is like itself; equality of times. -/
import Derived.Test.YtidgdanhnpfpmaaM
import Derived.ChangeKeysEq
namespace Go.Proofs.Ytidgdanhnpfpmaa
open Go.RowKit Go.Sort

/-- Cells put one behind the other. -/
def putL (A : Array Value) : Nat → List Value → Array Value
  | _, [] => A
  | o, v :: l => putL (A.setIfInBounds o v) (o + 1) l
theorem putL_size : ∀ (l : List Value) (A : Array Value) (o : Nat), (putL A o l).size = A.size
  | [], _, _ => rfl
  | v :: l, A, o => by rw [putL, putL_size l]; simp
theorem putL_at : ∀ (l : List Value) (A : Array Value) (o j : Nat), (putL A o l)[j]? = if o ≤ j ∧ j < o + l.length ∧ j < A.size then l[j - o]? else A[j]?
  | [], A, o, j => by rw [putL, if_neg (by simp; omega)]
  | v :: l, A, o, j => by
    rw [putL, putL_at l, Array.getElem?_setIfInBounds]
    by_cases hj : o = j
    · subst hj
      rw [if_neg (by omega), if_pos rfl]
      by_cases hs : o < A.size
      · rw [if_pos hs, if_pos ⟨Nat.le_refl _, by simp, hs⟩]; simp
      · rw [if_neg hs, if_neg (by omega)]
        simp [hs]
    · rw [if_neg hj]
      by_cases h : o + 1 ≤ j ∧ j < o + 1 + l.length ∧ j < A.size
      · rw [if_pos (by simpa using h), if_pos (by simp; omega), show j - o = (j - (o + 1)) + 1 by omega]
        simp
      · rw [if_neg (by simpa using h), if_neg (by simp; omega)]
theorem VarAt.putL {b : Nat} {t : TypeId} : ∀ (l : List Value) {w : World} {A : Array Value} (o : Nat), VarAt w b A t → VarAt (w.setCells b o l) b (putL A o l) t
  | [], _, _, _, h => h
  | v :: l, _, _, o, h => VarAt.putL l (o + 1) (h.set o v)
theorem Below.setL {B b : Nat} {a : World} (hB : B ≤ b) : ∀ (l : List Value) {w : World} (o : Nat), Below B a w → Below B a (w.setCells b o l)
  | [], _, _, h => h
  | v :: l, _, o, h => Below.setL hB l (o + 1) (h.setCell hB v)
theorem VarAt.set_other {w : World} {b : Nat} {xs : Array Value} {t : TypeId} (h : VarAt w b xs t) {p : Addr} (hp : b ≠ p.block) (u : Value) : VarAt (w.setCell p u) b xs t := by
  unfold VarAt at *; rw [Below.heap_setCell _ _ _ _ hp]; exact h
theorem VarAt.setL_other {b c : Nat} {xs : Array Value} {t : TypeId} (hc : b ≠ c) : ∀ (l : List Value) {w : World} (o : Nat), VarAt w b xs t → VarAt (w.setCells c o l) b xs t
  | [], _, _, h => h
  | v :: l, _, o, h => VarAt.setL_other hc l (o + 1) (h.set_other hc v)
theorem VarAt.there {w : World} {b : Nat} {xs : Array Value} {t : TypeId} (h : VarAt w b xs t) (o n : Nat) (hn : o + n ≤ xs.size) : w.there b o n := fun j hj => by
  refine ⟨?_, h.frozen _⟩
  rw [h.cell]
  simp; omega

/-- What lies outside of a port is as it was. -/
def Out (A A' : Array Value) (o : Nat) : Prop := A'.size = A.size ∧ ∀ j, (j < o ∨ o + 90 ≤ j) → A'[j]? = A[j]?
theorem Out.refl (A : Array Value) (o : Nat) : Out A A o := ⟨rfl, fun _ _ => rfl⟩
theorem Out.trans {A B C : Array Value} {o : Nat} (h : Out A B o) (k : Out B C o) : Out A C o := ⟨k.1.trans h.1, fun j hj => (k.2 j hj).trans (h.2 j hj)⟩
theorem Out.put (A : Array Value) (o k : Nat) (l : List Value) (hk : k + l.length ≤ 90) : Out A (putL A (o + k) l) o :=
  ⟨putL_size _ _ _, fun j hj => by rw [putL_at, if_neg (by omega)]⟩
theorem Sub.put {A xs : Array Value} {o : Nat} (h : Sub A o xs) (hx : xs.size = 90) (hA : o + 90 ≤ A.size) (k : Nat) (l : List Value) (_ : k + l.length ≤ 90) : Sub (putL A (o + k) l) o (putL xs k l) := fun j hj => by
  rw [putL_at, putL_at]
  by_cases hc : k ≤ j ∧ j < k + l.length
  · rw [if_pos (by omega), if_pos (by omega), show o + j - (o + k) = j - k by omega]
  · rw [if_neg (by omega), if_neg (by omega)]; exact h j hj
theorem Sub.out {A A' xs : Array Value} {o o' : Nat} (h : Sub A o' xs) (k : Out A A' o) (hd : o' + 90 ≤ o ∨ o + 90 ≤ o') : Sub A' o' xs := fun j hj => by
  rw [k.2 (o' + j) (by omega)]; exact h j hj

/-- The kinds of a port's cells; none: a Bool's. -/
def kinds : List (Option IntKind) := [some .u16, some .u32, none, none, none, none] ++ List.replicate 9 (some .i64) ++ List.replicate 29 none ++ List.replicate 4 (some .i64) ++
  [some .u64, some .u32, some .u64, some .u16, some .u64, some .u32, some .u64, some .u16, some .u64, some .u32, some .u64, some .u16] ++ List.replicate 12 (some .i64) ++
  [some .i64, some .u8, some .u64, some .u32, some .u64, some .u16, some .u16, some .u16, some .u16, some .u16] ++ List.replicate 8 (some .i64)
/-- A cell of a kind. -/
def kindOk : Option IntKind → Value → Prop
  | some k, v => ∃ n, v = .int k n
  | none, v => ∃ b, v = .bool b
/-- The cells of a port, each of its kind. -/
def Typed (xs : Array Value) : Prop := xs.size = 90 ∧ ∀ (k : Nat) q x, kinds[k]? = some q → xs[k]? = some x → kindOk q x
theorem Typed.put {xs : Array Value} (h : Typed xs) (o : Nat) (l : List Value) (hl : ∀ (j : Nat) q x, kinds[o + j]? = some q → l[j]? = some x → kindOk q x) : Typed (putL xs o l) := by
  refine ⟨by rw [putL_size]; exact h.1, fun k q x hq hx => ?_⟩
  rw [putL_at] at hx
  split at hx
  · refine hl (k - o) q x ?_ hx
    rw [show o + (k - o) = k by omega]; exact hq
  · exact h.2 k q x hq hx

/-- The kinds fit a type, from a place on. -/
noncomputable def chk (ks : List (Option IntKind)) : Nat → TypeId → Nat → Bool
  | 0, _, _ => false
  | d + 1, t, off => match Try.prog.underlying t with
    | some .bool => ks[off]? == some none && Try.prog.cellsOf t == 1
    | some (.int k) => ks[off]? == some (some k) && Try.prog.cellsOf t == 1
    | some (.struct fs) => !Try.prog.stoodInHeld t && (Try.prog.info? t).isSome && fs.toList.all (fun f => decide (f.offset + Try.prog.cellsOf f.type ≤ Try.prog.cellsOf t) && chk ks d f.type (off + f.offset))
    | _ => false
theorem self_fields (w : World) (d : Nat) (ys : Array Value) : ∀ (fs : List Field), (∀ f ∈ fs, ∃ a, (part f.type ys f.offset).run Try.prog w = .ok a w ∧ (Op.equalIn d f.type a a).run Try.prog w = .ok true w) → (Op.eqFields d ys ys fs).run Try.prog w = .ok true w
  | [], _ => by simp [Op.eqFields]
  | f :: fs, h => by
    obtain ⟨a, h1, h2⟩ := h f (by simp)
    have ih := self_fields w d ys fs (fun g hg => h g (by simp [hg]))
    simp only [Op.eqFields, Sem.run_ite, Sem.run_bind, h1, h2, ih, Result.andThen_ok]
    split <;> simp
theorem self_eq (w : World) {xs : Array Value} (ks : List (Option IntKind)) (hk : ∀ (k : Nat) q, ks[k]? = some q → ∃ x, xs[k]? = some x ∧ kindOk q x) : ∀ (d : Nat) (t : TypeId) (off o : Nat) (ys : Array Value) (e : Nat), chk ks d t off = true →
    (∀ j, j < Try.prog.cellsOf t → ys[o + j]? = xs[off + j]?) → ∃ a, (part t ys o).run Try.prog w = .ok a w ∧ (Op.equalIn (e + d) t a a).run Try.prog w = .ok true w ∧ (∀ fs, Try.prog.underlying t = some (.struct fs) → a = .agg (ys.extract o (o + Try.prog.cellsOf t)))
  | 0, _, _, _, _, _, h, _ => by simp [chk] at h
  | d + 1, t, off, o, ys, e, h, hy => by
    unfold chk at h
    split at h
    · rename_i hu
      simp at h
      obtain ⟨x, hx, b, rfl⟩ := hk off none h.1
      have h0 := hy 0 (by omega)
      simp [hx] at h0
      refine ⟨.bool b, run_part_plain w (by unfold Program.plainKey; rw [hu]) h0, ?_, by rw [hu]; intro _ h; cases h⟩
      rw [← Nat.add_assoc, run_equalIn_bool _ _ _ _ _ hu]; simp
    · rename_i k hu
      simp at h
      obtain ⟨x, hx, b, rfl⟩ := hk off (some k) h.1
      have h0 := hy 0 (by omega)
      simp [hx] at h0
      refine ⟨.int k b, run_part_plain w (by unfold Program.plainKey; rw [hu]) h0, ?_, by rw [hu]; intro _ h; cases h⟩
      rw [← Nat.add_assoc, run_equalIn_int _ _ _ _ k _ _ hu]; simp
    · rename_i fs hu
      simp only [Bool.and_eq_true, Bool.not_eq_true', List.all_eq_true, decide_eq_true_eq] at h
      obtain ⟨⟨h1, h2⟩, h3⟩ := h
      obtain ⟨i, hi⟩ := Option.isSome_iff_exists.1 h2
      have hf : Try.prog.fieldsOf t = fs := by unfold Program.fieldsOf; rw [hu]
      refine ⟨.agg (ys.extract o (o + Try.prog.cellsOf t)), ?_, ?_, fun _ _ => rfl⟩
      · unfold part
        have hagg : (isAgg t).run Try.prog w = .ok true w := by
          unfold isAgg; rw [Sem.run_bind, run_underlying hu w]; rfl
        simp [Sem.run_bind, hagg, run_sizeOf w hi]
      · rw [← Nat.add_assoc, run_equalIn_struct w (e + d) t _ _ (by rw [hf]; exact hu) h1, hf]
        refine self_fields w _ _ _ fun f hfm => ?_
        obtain ⟨h4, h5⟩ := h3 f hfm
        obtain ⟨a, a1, a2, _⟩ := self_eq w ks hk d f.type (off + f.offset) f.offset (ys.extract o (o + Try.prog.cellsOf t)) e h5 (fun j hj => by
          rw [Array.getElem?_extract]
          have e1 := hy (f.offset + j) (by omega)
          rw [show off + f.offset + j = off + (f.offset + j) by omega, ← e1]
          split
          · rfl
          · rename_i hn
            rw [Array.getElem?_eq_none]
            omega)
        exact ⟨a, a1, a2⟩
    · cases h
theorem chk48 : chk kinds 4 50 0 = true := by kernel_rfl
theorem kinds_len : kinds.length = 90 := by kernel_rfl
theorem c48 : Try.prog.cellsOf 50 = 90 := by kernel_rfl
theorem port_self {xs : Array Value} (h : Typed xs) (w : World) : (Op.equalIn 10000 50 (.agg xs) (.agg xs)).run Try.prog w = .ok true w := by
  obtain ⟨a, _, h2, h3⟩ := self_eq w kinds (fun k q hq => by
    have hk : k < 90 := by rw [← kinds_len]; exact (List.getElem?_eq_some_iff.1 hq).1
    have hx : k < xs.size := by rw [h.1]; exact hk
    exact ⟨xs[k], Array.getElem?_eq_getElem hx, h.2 k q _ hq (Array.getElem?_eq_getElem hx)⟩) 4 50 0 0 xs 9996 chk48 (fun _ _ => rfl)
  have e := h3 _ uP
  rw [c48, Nat.zero_add, ← h.1, Array.extract_size] at e
  subst e
  exact h2
theorem port_neq {xs : Array Value} (h : Typed xs) (w : World) : (binOp .neq 50 (.agg xs) (.agg xs)).run Try.prog w = .ok (.bool false) w := by
  rw [run_neq_struct, port_self h]; rfl

theorem und25' : Try.prog.underlying 25 = some (.struct (Try.prog.fieldsOf 25)) := by kernel_rfl
theorem held25 : Try.prog.stoodInHeld 25 = false := by kernel_rfl
theorem fields25 : (Try.prog.fieldsOf 25).toList.map (fun f => (f.name, f.type, f.offset)) = [("Age", 3, 0), ("Max", 3, 1), ("Hello", 3, 2), ("Delay", 3, 3)] := by kernel_rfl
section
variable (a m h d : Int) (w : World)
theorem t_part0 : (part 3 (tmC a m h d) 0).run Try.prog w = .ok (.int .i64 a) w := by kernel_rfl
theorem t_part1 : (part 3 (tmC a m h d) 1).run Try.prog w = .ok (.int .i64 m) w := by kernel_rfl
theorem t_part2 : (part 3 (tmC a m h d) 2).run Try.prog w = .ok (.int .i64 h) w := by kernel_rfl
theorem t_part3 : (part 3 (tmC a m h d) 3).run Try.prog w = .ok (.int .i64 d) w := by kernel_rfl
end
/-- Are two times alike? -/
def eqT (a m h d a' m' h' d' : Int) : Bool := a == a' && (m == m' && (h == h' && d == d'))
theorem t_equal (a m h d a' m' h' d' : Int) (w : World) : (Op.equalIn 10000 25 (tmV a m h d) (tmV a' m' h' d')).run Try.prog w = .ok (eqT a m h d a' m' h' d') w := by
  rw [run_equalIn_struct w 9999 25 _ _ und25' held25]
  have hf := fields25
  generalize (Try.prog.fieldsOf 25).toList = fs at hf ⊢
  obtain ⟨f1, f2, f3, f4, rfl⟩ : ∃ f1 f2 f3 f4, fs = [f1, f2, f3, f4] := by
    have hl := congrArg List.length hf
    simp at hl
    match fs, hl with
    | [f1, f2, f3, f4], _ => exact ⟨f1, f2, f3, f4, rfl⟩
  simp only [List.map_cons, List.map_nil, List.cons.injEq, Prod.mk.injEq, and_true] at hf
  obtain ⟨⟨n1, t1, o1⟩, ⟨n2, t2, o2⟩, ⟨n3, t3, o3⟩, ⟨n4, t4, o4⟩⟩ := hf
  have i1 := fun x y w => run_equalIn_int (P := Try.prog) w 9998 3 .i64 .i64 x y (by kernel_rfl)
  simp only [Op.eqFields, n1, n2, n3, n4, t1, t2, t3, t4, o1, o2, o3, o4]
  simp only [Sem.run_bind, t_part0, t_part1, t_part2, t_part3, i1, Result.andThen_ok, Sem.run_ite]
  unfold eqT
  cases a == a' <;> cases m == m' <;> cases h == h' <;> cases d == d' <;> simp
theorem g25 : Try.prog.eqGuardType Try.prog.depth 25 = false := by kernel_rfl
theorem gP : Try.prog.eqGuardType Try.prog.depth 50 = false := by kernel_rfl
end Go.Proofs.Ytidgdanhnpfpmaa
