/- Contracts of Of, and of slices.Equal of two lists of roles that are alike. -/
import Derived.Test.YtidgdanhnpfpmaaWb
namespace Go.Proofs.Ytidgdanhnpfpmaa
open Go.RowKit Go.Sort

/-- The roles of the first ports. -/
def rls (XS : Nat → Array Value) (n : Nat) : List Value := (List.range n).map fun i => .int .i64 (numI (XS i) 46)
theorem rls_len (XS : Nat → Array Value) (n : Nat) : (rls XS n).length = n := by simp [rls]
theorem rls_succ (XS : Nat → Array Value) (k : Nat) : rls XS (k + 1) = rls XS k ++ [.int .i64 (numI (XS k) 46)] := by simp [rls, List.range_succ]
theorem rls_at (XS : Nat → Array Value) (n i : Nat) (h : i < n) : (rls XS n)[i]? = some (.int .i64 (numI (XS i) 46)) := by simp [rls, h]
theorem und42 : Try.prog.underlying 42 = some (.slice 45) := by kernel_rfl
theorem info45 : (Try.prog.info? 45).map (fun i => (i.zero, i.size, i.bytes)) = some (some (.int .i64 0), 1, 8) := by kernel_rfl
theorem rof_nil (w : World) : Calls Try.prog 12 #[.pointer none] w fun e w' => e = .returned (.slice none 0 0) ∧ w = w' := by
  go_enter Try.func12, Try.ntmps12
  go_wp2_with fail
  go_ret
  exact ⟨rfl, rfl⟩
set_option maxRecDepth 20000 in
set_option maxHeartbeats 2000000 in
theorem rof_any (B : Bd) (bb pb n cap : Nat) (XS : Nat → Array Value) (w : World) (hB : Br w B bb pb n cap XS) (ht : ∀ i, i < n → Typed (XS i)) (hn : n ≤ 20) :
    Calls Try.prog 12 #[.pointer (some ⟨bb, 0, none⟩)] w fun e w' => (∃ v, e = .returned v ∧ w'.ownsRow w.heap.size 45 1 v n (rls XS n)) ∧ Below w.heap.size w w' := by
  have z := zero48
  have zs := Lib.hid z48_size
  generalize z48 = Z at *
  have c17 : w.cell? ⟨bb, 17, none⟩ = some (.slice (some ⟨pb, 0, none⟩) n cap) := hB.hb.cell 17
  obtain ⟨A, hA, hAn, hAs⟩ := hB.ex
  have PA := Lib.hid hA
  have PS := Lib.hid hAs
  have HT := Lib.hid ht
  obtain ⟨ia, hia⟩ : ∃ i, Hid (Try.prog.info? 45 = some i ∧ i.zero = some (.int .i64 0) ∧ i.size = 1 ∧ i.bytes = 8) := (info_parts info45).imp fun _ h => Lib.hid h
  clear hB hA hAs ht hAn
  go_enter Try.func12, Try.ntmps12
  go_wp2_with fail
  go_loopw [3, 13] (fun v c wr => ∃ k : Nat, k ≤ n ∧ c = .int .i64 k ∧ wr.ownsRow w.heap.size 45 1 v k (rls XS k) ∧ Below w.heap.size w wr) (fun _ c _ => n - (intOf c).toNat)
  case atStart => exact ⟨0, Nat.zero_le _, rfl, World.ownsRow_nil _ _ _ _, Below.refl _ _⟩
  case round =>
    obtain ⟨k, hk, rfl, hrp, hnx⟩ := hrel
    have HN := Lib.hid hnx
    have HR := Lib.hid hrp
    clear hnx hrp
    by_cases hlt : k < n
    · have i0 := idx32b pb n cap k hlt
      have hx := (HT.out k hlt).1
      have sn := store_new (HT.out k hlt) zs.out
      have hv := var_new wr (XS k) 50
      have c46 : (wr.alloc (.cells (XS k) 50)).cell? ⟨wr.heap.size, 46, none⟩ = some (.int .i64 (numI (XS k) 46)) := by
        rw [hv.cell]; exact (HT.out k hlt).num 46 rfl
      have hsz := HN.out.size
      have HB := Lib.hid (HN.out.alloc hsz (.cells (XS k) 50))
      have HR2 := Lib.hid (own_below HR.out (box_below wr (.cells (XS k) 50)))
      have HS := Lib.hid (rls_succ XS k)
      have hls := rls_len XS k
      generalize hL : rls XS (k + 1) = L1 at *
      have HL := Lib.hid hL
      clear hL
      generalize rls XS k = L at *
      generalize numI (XS k) 46 = r at *
      clear hv
      go_wp2_with (with_reducible refine stopL 50 _ rfl ?_)
      refine Lib.hid ?_
      refine wpList_load_whole uP rfl sP rfl _ rfl rfl (((PS.out k hlt).pat (PA.out.below HN.out PA.out.lt)).range hx) hx ?_
      clear HN HR i0
      go_wp2_with (at_builtin; refine wpList_append_own _ rfl _ _ 42 rfl w.heap.size 45 ia (.int .i64 0) 1 8 und42 hia.out.1 hia.out.2.1 hia.out.2.2.1 hia.out.2.2.2 rfl (by decide) _ _ _ rfl (HR2.out.alloc _) ⟨wr.heap.size + 1, 0, none⟩ 1 1 [.int .i64 r] rfl rfl ?c1 ?c2 ?c3 ?c4 ?c5 ?_)
      case c1 => have q9 := cell_one_new (wr.alloc (.cells (XS k) 50)) (.int .i64 r) 45; rw [alloc_size] at q9; exact q9
      case c2 => intro u hu; simp at hu; subst hu; rfl
      case c3 => unfold maxLen; omega
      case c4 => omega
      case c5 => simp; omega
      intro v' w3 ho hg _
      have hb3 := Lib.hid (below_app HB.out (by rw [alloc_size]; omega) (HR2.out.alloc _) hg)
      have ho3 := Lib.hid (show w3.ownsRow w.heap.size 45 1 v' (k + 1) L1 by rw [HS.out]; exact ho)
      clear ho hg HB HR2
      go_wp2_with fail
      exact ⟨⟨k + 1, by omega, by go_num, by rw [HL.out]; exact ho3.out, hb3.out⟩, meas_next hlt⟩
    · obtain rfl : n = k := by omega
      go_wp2_with fail
      go_ret
      exact ⟨⟨_, rfl, HR.out⟩, HN.out⟩
theorem idx42 (b n c k : Nat) (h : k < n) (w : World) : (Instr.indexAt 42 (.slice (some ⟨b, 0, none⟩) n c) (.int .i64 k)).run Try.prog w = .ok (.pointer (some ⟨b, k, none⟩)) w := by
  go_simp
set_option maxRecDepth 20000 in
theorem equal_any (v1 v2 : Value) (B1 B2 n : Nat) (XS : Nat → Array Value) (w : World) (h1 : w.ownsRow B1 45 1 v1 n (rls XS n)) (h2 : w.ownsRow B2 45 1 v2 n (rls XS n)) (hn : n ≤ 20) :
    Calls Try.prog 11 #[v1, v2] w fun e w' => e = .returned (.bool true) ∧ Below w.heap.size w w' := by
  obtain ⟨a1, c1, rfl⟩ := own_slice h1
  obtain ⟨a2, c2, rfl⟩ := own_slice h2
  have H1 := Lib.hid (fun h => own_cells h1 h)
  have H2 := Lib.hid (fun h => own_cells h2 h)
  clear h1 h2
  go_enter Try.func11, Try.ntmps11
  go_wp2_with fail
  go_loopw [13] (fun c wr => ∃ k : Nat, k ≤ n ∧ c = .int .i64 k ∧ Below w.heap.size w wr) (fun c _ => n - (intOf c).toNat)
  case atStart => exact ⟨0, Nat.zero_le _, rfl, Below.refl _ _⟩
  case round =>
    obtain ⟨k, hk, rfl, hnx⟩ := hrel
    by_cases hlt : k < n
    · obtain ⟨g1, d1, he1, -, hl1, hc1⟩ := H1.out (by omega)
      obtain ⟨g2, d2, he2, -, hl2, hc2⟩ := H2.out (by omega)
      simp only [Value.slice.injEq, true_and] at he1 he2
      obtain ⟨rfl, rfl⟩ := he1
      obtain ⟨rfl, rfl⟩ := he2
      have q1 := cell_below hnx (hc1 k _ (rls_at XS n k hlt))
      have q2 := cell_below hnx (hc2 k _ (rls_at XS n k hlt))
      generalize numI (XS k) 46 = r at *
      have f1 : ∀ m, (wr.drewN m).cell? ⟨g1, k, none⟩ = some (.int .i64 r) := fun _ => q1
      have f2 : ∀ m, (wr.drewN m).cell? ⟨g2, k, none⟩ = some (.int .i64 r) := fun _ => q2
      have i1 := idx42 g1 n c1 k hlt
      have i2 := idx42 g2 n c2 k hlt
      have hd : (r != r) = false := by simp
      have HN := Lib.hid hnx
      clear hnx hc1 hc2 q1 q2 H1 H2
      go_wp2_with fail
      have hb := Lib.hid (fun m => HN.out.trans (below_dn w.heap.size wr m))
      go_quiet (fail)
      go_wp2_with fail
      exact ⟨⟨k + 1, by omega, by go_num, hb.out _⟩, meas_next hlt⟩
    · obtain rfl : n = k := by omega
      go_wp2_with fail
      go_ret
      exact ⟨rfl, hnx⟩
end Go.Proofs.Ytidgdanhnpfpmaa
