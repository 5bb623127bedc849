/- Equality of vectors; ports appended to nothing. -/
import Derived.Test.YtiebiajpeocecaaV
namespace Go.Proofs.Ytiebiajpeocecaa
open Go.RowKit Go.Sort

/-- A vector's cells, and a vector. -/
abbrev vC (r c b p : Int) : Array Value := #[.int .u64 r, .int .u32 c, .int .u64 b, .int .u16 p]
abbrev vV (r c b p : Int) : Value := .agg (vC r c b p)
theorem und28 : Try.prog.underlying 48 = some (.struct (Try.prog.fieldsOf 48)) := by kernel_rfl
theorem held28 : Try.prog.stoodInHeld 48 = false := by kernel_rfl
theorem fields28 : (Try.prog.fieldsOf 48).toList.map (fun f => (f.name, f.type, f.offset)) = [("Root", 46, 0), ("Cost", 31, 1), ("Bridge", 46, 2), ("Port", 42, 3)] := by kernel_rfl
section
variable (r c b p : Int) (w : World)
theorem v_part0 : (part 46 (vC r c b p) 0).run Try.prog w = .ok (.int .u64 r) w := by kernel_rfl
theorem v_part1 : (part 31 (vC r c b p) 1).run Try.prog w = .ok (.int .u32 c) w := by kernel_rfl
theorem v_part2 : (part 46 (vC r c b p) 2).run Try.prog w = .ok (.int .u64 b) w := by kernel_rfl
theorem v_part3 : (part 42 (vC r c b p) 3).run Try.prog w = .ok (.int .u16 p) w := by kernel_rfl
end
/-- Are two vectors alike? -/
def eqV (r c b p r' c' b' p' : Int) : Bool := r == r' && (c == c' && (b == b' && p == p'))
theorem v_equal (r c b p r' c' b' p' : Int) (w : World) : (Op.equalIn 10000 48 (vV r c b p) (vV r' c' b' p')).run Try.prog w = .ok (eqV r c b p r' c' b' p') w := by
  rw [run_equalIn_struct w 9999 48 _ _ und28 held28]
  have hf := fields28
  generalize (Try.prog.fieldsOf 48).toList = fs at hf ⊢
  obtain ⟨f1, f2, f3, f4, rfl⟩ : ∃ f1 f2 f3 f4, fs = [f1, f2, f3, f4] := by
    have hl := congrArg List.length hf
    simp at hl
    match fs, hl with
    | [f1, f2, f3, f4], _ => exact ⟨f1, f2, f3, f4, rfl⟩
  simp only [List.map_cons, List.map_nil, List.cons.injEq, Prod.mk.injEq, and_true] at hf
  obtain ⟨⟨n1, t1, o1⟩, ⟨n2, t2, o2⟩, ⟨n3, t3, o3⟩, ⟨n4, t4, o4⟩⟩ := hf
  have i1 := fun x y w => run_equalIn_int (P := Try.prog) w 9998 46 .u64 .u64 x y (by kernel_rfl)
  have i2 := fun x y w => run_equalIn_int (P := Try.prog) w 9998 31 .u32 .u32 x y (by kernel_rfl)
  have i3 := fun x y w => run_equalIn_int (P := Try.prog) w 9998 42 .u16 .u16 x y (by kernel_rfl)
  simp only [Op.eqFields, n1, n2, n3, n4, t1, t2, t3, t4, o1, o2, o3, o4]
  simp only [Sem.run_bind, v_part0, v_part1, v_part2, v_part3, i1, i2, i3, Result.andThen_ok, Sem.run_ite]
  unfold eqV
  cases r == r' <;> cases c == c' <;> cases b == b' <;> cases p == p' <;> simp
theorem v_eql (r c b p r' c' b' p' : Int) (w : World) : (binOp .eql 48 (vV r c b p) (vV r' c' b' p')).run Try.prog w = .ok (.bool (eqV r c b p r' c' b' p')) w := by
  rw [run_eql_struct, v_equal]; rfl
theorem g28 : Try.prog.eqGuardType Try.prog.depth 48 = false := by kernel_rfl
theorem var_kept {w w' : World} {b B n sz : Nat} {xs : Array Value} {t e : TypeId} {v : Value} {ys : List Value} (h : VarAt w b xs t) (ho : w.ownsRow B e sz v n ys) (hne : t ≠ e) (hg : w.grownBy w' v.ownBlock) : VarAt w' b xs t := by
  refine (hg.block b h.lt ?_).trans h
  intro hb
  rcases ho.2 with ⟨rfl, _⟩ | ⟨g, _, _, rfl, _, hgg, _⟩
  · simp [Value.ownBlock] at hb
  · simp [Value.ownBlock] at hb
    subst hb
    unfold VarAt at h
    rw [hgg] at h
    simp at h
    exact hne h.2.symm
/-- What append makes of ports. -/
theorem made_ports {w : World} {B n : Nat} {v : Value} {XS : Nat → Array Value} (h : w.ownsRow B 54 90 v n (pcs XS n)) (hv : v ≠ .slice none 0 0) (hx : ∀ i, i < n → (XS i).size = 90) : ∃ pb cap A, v = .slice (some ⟨pb, 0, none⟩) n cap ∧ B ≤ pb ∧ VarAt w pb A 54 ∧ n * 90 ≤ A.size ∧ ∀ i, i < n → Sub A (i * 90) (XS i) := by
  rcases h.2 with ⟨e, _⟩ | ⟨g, cap, cur, rfl, hb, hg, hnc, _, hs, ht⟩
  · exact (hv e).elim
  · refine ⟨g, cap, cur, rfl, hb, hg, by rw [hs]; exact Nat.mul_le_mul_right _ hnc, fun i hi k hk => ?_⟩
    have := pcs_at hx i hi k hk
    rw [← this, ← ht, List.getElem?_take, if_pos (by omega)]
    simp

theorem news_of {w w' : World} {ad : Addr} {n : Nat} {XS : Nat → Array Value} (hx : ∀ i, i < n → (XS i).size = 90) (h1 : 0 < n → ∃ b o, some ad = some ⟨b, o, none⟩ ∧ ∀ i, i < n → ∀ k, k < 90 → w.cell? ⟨b, o + i * 90 + k, none⟩ = (XS i)[k]?) (hb : Below w.heap.size w w') :
    ∀ (j : Nat) u, (pcs XS n)[j]? = some u → w'.cell? (ad.add j) = some u := by
  intro j u hj
  have hlt : j < n * 90 := by rw [← pcs_len hx]; exact (List.getElem?_eq_some_iff.1 hj).1
  have hi : j / 90 < n := by omega
  obtain ⟨b, o, e, hc⟩ := h1 (by omega)
  cases e
  have h2 := hc (j / 90) hi (j % 90) (by omega)
  rw [← pcs_at hx (j / 90) hi (j % 90) (by omega), show j / 90 * 90 + j % 90 = j by omega, hj] at h2
  rw [addN]
  refine cell_below hb ?_
  rw [← h2]
  congr 2
  omega
theorem var_ne {w : World} {b c : Nat} {xs ys : Array Value} {t u : TypeId} (h : VarAt w b xs t) (k : VarAt w c ys u) (hne : t ≠ u) : b ≠ c := by
  rintro rfl
  unfold VarAt at h k
  rw [h] at k
  simp at k
  exact hne k.2

theorem eqV_self (r c b p : Int) : eqV r c b p r c b p = true := by simp [eqV]
theorem eqT_self (a m h d : Int) : eqT a m h d a m h d = true := by simp [eqT]
theorem idx32b (pb n cap k : Nat) (h : k < n) (w : World) : (Instr.indexAt 69 (.slice (some ⟨pb, 0, none⟩) n cap) (.int .i64 k)).run Try.prog w = .ok (.pointer (some ⟨pb, k * 90, none⟩)) w := by
  go_simp
theorem quiet_load {ops : Array Oper} {C : World → Prop} {Q : Act → Prop} {a : Act} {op : Oper} {rest : List Oper} (hg : op.guard = none) (x : Operand) (ho : op.op = .load 54 x) {b o : Nat} (hx : a.eval x = .pointer (some ⟨b, o, none⟩)) {xs : Array Value}
    (hC : ∀ w, C w → w.rangeAt b o xs.toList) (hz : xs.size = 90) (h : wpQuiet Try.prog ops C Q rest (a.put op.dst (.agg xs))) : wpQuiet Try.prog ops C Q (op :: rest) a := by
  refine BigFrame.wpQuiet_want (by simp [Region.wanted, hg]) fun K hK => ⟨.agg xs, fun w hw => ?_, hK _ h⟩
  unfold Oper.quietAt execOp
  simp only [ho, hx, Instr.loadAt, Instr.sureAddr, Sem.run_bind, Sem.run_pure, Result.andThen_ok, run_loadVar_mid (P := Try.prog) w b o 54 xs.toList _ (hC w hw) uP rfl (by rw [sP]; simp [hz])]
  exact ⟨rfl, by simp⟩


theorem wpList_append_ports {ops : Array Oper} {rest : List Oper} {o : Oper} {a : Act} {w : World} {Q : Exit → Act → World → Prop} (hgd : o.guard = none) (sl x : Operand) (ho : o.op = .call { callee := .builtin .append, args := #[sl, x], argTypes := #[69, 69] })
    (B0 g : Nat) (hs : a.eval sl = .slice (some ⟨g, 0, none⟩) 0 0) (hown : w.ownsRow B0 54 90 (.slice (some ⟨g, 0, none⟩) 0 0) 0 []) (hB : B0 ≤ w.heap.size) {s' : Value} {m : Nat} {XS : Nat → Array Value} (hx : a.eval x = s') (hp : PIn w s' m XS) (hm : m ≤ 20) (ht : ∀ i, i < m → Typed (XS i))
    (h : ∀ pb cap w3, B0 ≤ pb → (∃ A, VarAt w3 pb A 54 ∧ m * 90 ≤ A.size ∧ ∀ i, i < m → Sub A (i * 90) (XS i)) → (∀ c ys t, t ≠ 54 → VarAt w c ys t → VarAt w3 c ys t) → (∀ Bl w0, Bl ≤ B0 → Bl ≤ w.heap.size → Below Bl w0 w → Below Bl w0 w3) → wpList Try.prog ops Q rest (a.put o.dst (.slice (some ⟨pb, 0, none⟩) m cap)) w3) : wpList Try.prog ops Q (o :: rest) a w := by
  have hz : ∀ i, i < m → (XS i).size = 90 := fun i hi => (ht i hi).1
  have hlen := pcs_len hz
  have hone : ∀ u ∈ pcs XS m, u.oneCell' = true := by
    intro u hu
    simp only [pcs, List.mem_flatMap, List.mem_range] at hu
    obtain ⟨i, hi, hm⟩ := hu
    exact (Array.all_eq_true_iff_forall_mem.1 (ht i hi).one) u (by simpa using hm)
  obtain ⟨ia, hia1, hia2, hia3, hia4⟩ := info_parts info48'
  obtain ⟨ad', c, rfl, h0, h1⟩ := hp
  cases ad' with
  | none =>
    obtain ⟨rfl, rfl⟩ := h0 rfl
    refine wpList_append_own_none hgd sl x 69 ho B0 54 ia 90 und32 hia1 _ 0 [] hs hown hx ?_
    obtain ⟨pb, cap, A, hpe, hpb, hvA, hsA, hsub⟩ := made_ports (n := 0) (XS := XS) hown (by simp) hz
    obtain ⟨rfl, rfl⟩ : pb = g ∧ cap = 0 := by simp at hpe; exact ⟨hpe.1.symm, hpe.2.symm⟩
    exact h pb 0 w hpb ⟨A, hvA, hsA, hsub⟩ (fun _ _ _ _ h => h) (fun _ _ _ _ h => h)
  | some ad =>
    refine wpList_append_own w hgd sl x 69 ho B0 54 ia (.agg z48) 90 464 und32 hia1 hia2 hia3 hia4 z48_size (by decide) _ 0 [] hs hown ad m c (pcs XS m) hx hlen ?_ hone (by unfold maxLen; omega) (by omega) hB ?_
    · exact news_of hz h1 (Below.refl _ _)
    · intro v' w3 ho' hg hnil
      rw [Nat.zero_add, List.nil_append] at ho'
      obtain ⟨pb, cap, A, rfl, hpb, hvA, hsA, hsub⟩ := made_ports ho' (by rw [Ne, hnil]; simp) hz
      exact h pb cap w3 hpb ⟨A, hvA, hsA, hsub⟩ (fun c ys t hne hv => var_kept hv hown hne hg) (fun Bl w0 hl hl' hb => hb.grown hg hl' (fun k hk => Nat.le_trans hl (hown.lt k hk).1))
/-- A bridge's zero. -/
abbrev zB : Array Value := (⟨0, 0, 0, 0, 0, 0, false, 0, 0, 0, 0, 0, 0, 0, 0, 0, 0⟩ : Bd).cells (.slice none 0 0)
theorem Bd.size (B : Bd) (s : Value) : (B.cells s).size = 18 := by simp
end Go.Proofs.Ytiebiajpeocecaa
