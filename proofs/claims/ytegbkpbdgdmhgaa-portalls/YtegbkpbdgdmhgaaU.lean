/- Contracts of Hello, Delay, Edge; of the chapter's example. -/
import Derived.Test.YtegbkpbdgdmhgaaRb
namespace Go.Proofs.Ytegbkpbdgdmhgaa
open Go.RowKit Go.Sort

theorem PAt.num {w : World} {b o : Nat} {xs : Array Value} (h : PAt w b o xs) (ht : Typed xs) (k : Nat) (hk : kinds[k]? = some (some .i64)) : w.cell? ⟨b, o + k, none⟩ = some (.int .i64 (numI xs k)) := by
  rw [h k (by rw [← kinds_len]; exact (List.getElem?_eq_some_iff.1 hk).1), ht.num k hk]
theorem PAt.bool {w : World} {b o : Nat} {xs : Array Value} (h : PAt w b o xs) (ht : Typed xs) (k : Nat) (hk : kinds[k]? = some none) : w.cell? ⟨b, o + k, none⟩ = some (.bool (boolI xs k)) := by
  rw [h k (by rw [← kinds_len]; exact (List.getElem?_eq_some_iff.1 hk).1), ht.bool k hk]
theorem hello_any (b o : Nat) (xs : Array Value) (w : World) (hp : PAt w b o xs) (ht : Typed xs) : Calls Try.prog 30 #[.pointer (some ⟨b, o, none⟩)] w fun e w' => e = .returned (.int .i64 (numI xs 62)) ∧ w = w' := by
  have c62 := hp.num ht 62 rfl
  clear hp ht
  go_enter Try.func30, Try.ntmps30
  go_wp2_with fail
  go_ret
  exact ⟨rfl, rfl⟩
/-- A port's time in a state. -/
def delX (xs : Array Value) : Int := if boolI xs 40 then numI xs 62 else numI xs 63
theorem delay_any (b o : Nat) (xs : Array Value) (w : World) (hp : PAt w b o xs) (ht : Typed xs) : Calls Try.prog 22 #[.pointer (some ⟨b, o, none⟩)] w fun e w' => e = .returned (.int .i64 (delX xs)) ∧ w = w' := by
  have kh := Lib.hid (hello_any b o xs w hp ht)
  have c40 := hp.bool ht 40 rfl
  have c63 := hp.num ht 63 rfl
  unfold delX
  clear hp ht
  cases hq : boolI xs 40
  · rw [hq] at c40
    go_enter Try.func22, Try.ntmps22
    go_wp2_with fail
    go_ret
    exact ⟨rfl, rfl⟩
  · rw [hq] at c40
    go_enter Try.func22, Try.ntmps22
    go_wp2_with fail
    refine kh.out.mono ?_
    rintro e w1 ⟨rfl, rfl⟩
    go_wp2_with fail
    go_ret
    exact ⟨rfl, rfl⟩
/-- A port's time until it counts as an edge. -/
def edgX (xs : Array Value) : Int := if boolI xs 5 then 3 else numI xs 61
theorem edge_any (b o : Nat) (xs : Array Value) (w : World) (hp : PAt w b o xs) (ht : Typed xs) : Calls Try.prog 23 #[.pointer (some ⟨b, o, none⟩)] w fun e w' => e = .returned (.int .i64 (edgX xs)) ∧ w = w' := by
  have c5 := hp.bool ht 5 rfl
  have c61 := hp.num ht 61 rfl
  unfold edgX
  clear hp ht
  cases hq : boolI xs 5
  · rw [hq] at c5
    go_enter Try.func23, Try.ntmps23
    go_wp2_with fail
    go_ret
    exact ⟨rfl, rfl⟩
  · rw [hq] at c5
    go_enter Try.func23, Try.ntmps23
    go_wp2_with fail
    go_ret
    exact ⟨rfl, rfl⟩

theorem z48_typed : Typed z48 := by
  refine ⟨z48_size, fun k q x hq hx => ?_⟩
  unfold z48 at hx
  simp only [List.getElem?_toArray, List.getElem?_map, hq, Option.map_some, Option.some.injEq] at hx
  subst hx
  cases q with
  | none => exact ⟨_, rfl⟩
  | some k => exact ⟨_, rfl⟩
/-- The example's port. -/
noncomputable def exP : Array Value := putL (putL z48 60 [.int .i64 0, .int .i64 20, .int .i64 2, .int .i64 15]) 13 [.int .i64 1]
theorem exP_typed : Typed exP := by
  refine Typed.put (Typed.put z48_typed 60 _ fun j q x hq hx => ?_) 13 _ fun j q x hq hx => ?_
  · have hj : j < 4 := by have := (List.getElem?_eq_some_iff.1 hx).1; simpa using this
    match j, hj with
    | 0, _ | 1, _ | 2, _ | 3, _ => simp [kinds] at hq; subst hq; simp at hx; subst hx; exact ⟨_, rfl⟩
  · have hj : j = 0 := by have := (List.getElem?_eq_some_iff.1 hx).1; simpa using this
    subst hj
    simp [kinds] at hq; subst hq; simp at hx; subst hx; exact ⟨_, rfl⟩
/-- The example's bridge. -/
def exB : Bd := ⟨0, 0, 0, 0, 0, 0, false, 0, 0, 0, 0, 0, 0, 0, 0, 0, 0⟩
theorem built48 : Try.prog.built 49 [(51, tmV 0 20 2 15), (13, .int .i64 1)] = some exP := by kernel_rfl
theorem built34 (b : Nat) : Try.prog.built 34 [(8, .slice (some ⟨b, 0, none⟩) 1 1)] = some (exB.cells (.slice (some ⟨b, 0, none⟩) 1 1)) := by kernel_rfl
theorem fill48 : Instr.fill (fun i => some (i * 90, 90)) ((Array.range (1 * 90)).map (z48[· % z48.size]!)) [(0, .agg exP)] = some exP := by kernel_rfl
theorem ex_facts : delX exP = 15 ∧ edgX exP = 20 ∧ numI (tkX exP) 13 = 0 := by
  refine ⟨by kernel_rfl, by kernel_rfl, by kernel_rfl⟩
set_option maxRecDepth 20000 in
set_option maxHeartbeats 1000000 in
theorem lives_any (w : World) : Calls Try.prog 5 #[] w fun e w' => e = .returned (.bool true) ∧ Below w.heap.size w w' := by
  obtain ⟨ia, hi, hz, hs⟩ : ∃ i, Try.prog.info? 49 = some i ∧ i.zero = some (.agg z48) ∧ i.size = 90 := by
    have := info48
    cases h : Try.prog.info? 49 with
    | none => rw [h] at this; simp at this
    | some i => rw [h] at this; simp at this; exact ⟨i, rfl, this.1, this.2⟩
  have HI := Lib.hid (And.intro hi (And.intro hz hs))
  have HB48 := Lib.hid built48
  have HF48 := Lib.hid fill48
  have HX := Lib.hid ex_facts
  have HT := Lib.hid exP_typed
  have zp := zero48
  have zps := Lib.hid z48_size
  clear hi hz hs
  generalize exP = EP at *
  generalize z48 = ZP at *
  go_enter Try.func5, Try.ntmps5
  go_wp2_with (with_reducible refine stopG 49 _ rfl ?_)
  refine Lib.hid ?_
  refine wpList_buildE rfl 49 _ rfl EP (by simp only [List.map_toArray, List.map_cons, List.map_nil]; exact HB48.out) ?_
  simp only [Act.put, List.setIfInBounds_toArray, List.set_cons_zero, List.set_cons_succ]
  go_wp2_with (with_reducible refine stopS 49 _ _ rfl ?_)
  refine Lib.hid ?_
  clear zp
  refine wpList_store_only sP rfl _ _ rfl rfl rfl (var_new w ZP 49) HT.out.one HT.out.1 (by rw [zps.out]; omega) ?_
  intro w1 hv1 ho1
  rw [putL_all _ _ (by rw [zps.out, HT.out.1])] at hv1
  have V1 := Lib.hid hv1
  have B1 := Lib.hid (show Below w.heap.size w w1 from (box_below w _).trans (ho1.below (Nat.le_refl _) (by rw [alloc_size]; omega)))
  clear hv1 ho1
  go_wp2_with (with_reducible refine stopL 49 _ rfl ?_)
  refine Lib.hid ?_
  refine wpList_load_whole uP rfl sP rfl _ rfl rfl (range_whole V1.out) HT.out.1 ?_
  refine wpList_buildSlice rfl 32 49 1 _ rfl EP ia (.agg ZP) und32 HI.out.1 HI.out.2.1 (by rw [HI.out.2.2]; omega) (by rw [HI.out.2.2]; omega) (by rw [HI.out.2.2]; simp only [List.map_toArray, List.map_cons, List.map_nil]; exact HF48.out) ?_
  simp only [Act.put, List.setIfInBounds_toArray, List.set_cons_zero, List.set_cons_succ]
  refine wpList_buildE rfl 34 _ rfl (exB.cells (.slice (some ⟨w1.heap.size, 0, none⟩) 1 1)) (by simp only [List.map_toArray, List.map_cons, List.map_nil]; exact built34 _) ?_
  simp only [Act.put, List.setIfInBounds_toArray, List.set_cons_zero, List.set_cons_succ]
  have V2 := Lib.hid (V1.out.alloc (.cells EP 49))
  have P2 := Lib.hid (var_new w1 EP 49)
  have B2 := Lib.hid (B1.out.alloc B1.out.size (.cells EP 49))
  have hsz := B1.out.size
  have hvl := V1.out.lt
  have hne0 : w.heap.size ≠ w1.heap.size := by omega
  have S2 := alloc_size w1 (.cells EP 49)
  clear V1 B1
  generalize w1.alloc (.cells EP 49) = w2 at *
  have zz := zero34
  have zzs := Lib.hid z34_size
  generalize z34 = ZB at *
  go_wp2_with (with_reducible refine stopS 34 _ _ rfl ?_)
  refine Lib.hid ?_
  clear zz
  refine wpList_store_only sB rfl _ _ rfl rfl rfl (show VarAt (w2.alloc (.cells ZB 34)) (w1.heap.size + 1) ZB 34 by rw [← S2]; exact var_new w2 ZB 34) (Bd.one _ rfl) (by simp) (by rw [zzs.out]; omega) ?_
  intro w3 hv3 ho3
  rw [putL_all _ _ (by rw [zzs.out]; simp)] at hv3
  have hb3 : Below w2.heap.size w2 w3 := (box_below w2 _).trans (ho3.below (by omega) (by rw [alloc_size]; omega))
  have V3 := Lib.hid (V2.out.below hb3 V2.out.lt)
  have P3 := Lib.hid (P2.out.below hb3 P2.out.lt)
  have B3 := Lib.hid (B2.out.trans (hb3.mono B2.out.size))
  have BR := Lib.hid (show Br w3 exB (w1.heap.size + 1) w1.heap.size 1 1 (fun _ => EP) from ⟨hv3, EP, P3.out, by rw [HT.out.1]; omega, fun i hi => by
    obtain rfl : i = 0 := by omega
    intro k _; rw [Nat.zero_mul, Nat.zero_add]⟩)
  have kT := Lib.hid (tick_any exB (w1.heap.size + 1) w1.heap.size 1 1 (fun _ => EP) w3 BR.out (fun _ _ => HT.out) (by omega))
  have hne2 : w.heap.size ≠ w1.heap.size := hne0
  clear hv3 ho3 hb3 V2 P2 B2 P3
  go_wp2_with fail
  refine kT.out.mono ?_
  rintro e w4 ⟨rfl, hbr, ho4⟩
  have V4 := Lib.hid (ho4.var V3.out hne2)
  have B4 := Lib.hid (B3.out.trans (ho4.below (by omega) B3.out.size))
  obtain ⟨A, hA, hAn, hAs⟩ := hbr.ex
  have hnum := (Sub.pat (hAs 0 (by omega)) hA).num (tkX_typed HT.out) 13 rfl
  rw [Nat.zero_mul, HX.out.2.2] at hnum
  have c17 : w4.cell? ⟨w1.heap.size + 1, 17, none⟩ = some (.slice (some ⟨w1.heap.size, 0, none⟩) 1 1) := hbr.hb.cell 17
  have hp4 : PAt w4 w.heap.size 0 EP := fun k hk => by rw [Nat.zero_add]; exact V4.out.cell k
  have kd := Lib.hid (delay_any w.heap.size 0 EP w4 hp4 HT.out)
  have ke := Lib.hid (edge_any w.heap.size 0 EP w4 hp4 HT.out)
  rw [HX.out.1] at kd
  rw [HX.out.2.1] at ke
  have hnum' : w4.cell? ⟨w1.heap.size, 13, none⟩ = some (.int .i64 0) := by simpa using hnum
  clear hbr ho4 hA hAn hAs hp4 V3 B3 BR kT hnum
  go_wp2_with (first | (go_at_call 22; refine kd.out.mono ?_; rintro e w5 ⟨rfl, rfl⟩) | (go_at_call 23; refine ke.out.mono ?_; rintro e w5 ⟨rfl, rfl⟩))
  go_ret
  exact ⟨rfl, B4.out⟩
end Go.Proofs.Ytegbkpbdgdmhgaa
