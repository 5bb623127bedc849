/- ConfigPorts' call. -/
import Derived.Test.YtiebiajpeocecaaX
import Derived.Test.YtiebiajpeocecaaE
import Derived.Deep.DeepCutAuto
namespace Go.Proofs.Ytiebiajpeocecaa
open Go.RowKit Go.Sort

/-- A port, its number, and whether its link has two ends. -/
structure Ap (xs : Array Value) (num : Int) (two : Bool) (A : Array Value) : Prop where
  size : A.size = 92
  port : Sub A 0 xs
  num : A[90]? = some (.int .i64 num)
  two : A[91]? = some (.bool two)
theorem ports_facts {p k : Nat} (hp : ptB p k = true) : ∃ N Q R : Nat, p / 16 * 4096 + k = N ∧ N < 65536 ∧ N / 4096 * 16 = p ∧ N % 4096 = k ∧ decide ((p : Int) < 0) = false ∧ decide ((240 : Int) < p) = false ∧ ((p : Int) % 16 != 0) = false ∧
    decide ((k : Int) < 1) = false ∧ decide ((4095 : Int) < k) = false ∧ wrap64 ((p : Int) / 16) = Q ∧ wrap64 ((Q : Int) * 4096) = R ∧ wrap64 ((R : Int) + k) = N ∧ wrap64 (N : Int) = N := by
  have a1 : stB p 16 240 = true := by unfold ptB at hp; simp at hp; exact hp.1
  have a2 : 1 ≤ k ∧ k ≤ 4095 := by unfold ptB at hp; simp at hp; omega
  have a3 : p ≤ 240 ∧ p % 16 = 0 := by unfold stB at a1; simp at a1; omega
  refine ⟨_, p / 16, p / 16 * 4096, rfl, by omega, by omega, by omega, by simp, by simp; omega, by simp; omega, by simp; omega, by simp; omega, by unfold wrap64; omega, by unfold wrap64; omega, by unfold wrap64; omega, by unfold wrap64; omega⟩
theorem u16_small {N : Nat} (h : N < 65536) : IntKind.u16.wrap (N : Int) = (N : Int) := by simp only [IntKind.wrap, IntKind.bits, IntKind.signed]; simp; omega
theorem port_eql {xs : Array Value} (h : Typed xs) (w : World) : (binOp .eql 54 (.agg xs) (.agg xs)).run Try.prog w = .ok (.bool true) w := by
  rw [run_eql_struct, port_self h]; rfl
theorem newA_size (xs : Array Value) (id cost : Nat) (ed au two : Bool) : (newA xs id cost ed au two).size = xs.size := by simp [newA]
theorem newA_again (xs : Array Value) (i id cost : Nat) (ed au two : Bool) : (newA xs i cost ed au two).setIfInBounds 0 (.int .u16 id) = newA xs id cost ed au two := by
  unfold newA
  apply Array.ext_getElem?
  intro k
  simp only [Array.getElem?_setIfInBounds, Array.size_setIfInBounds]
  by_cases h0 : k = 0
  · subst h0; simp
  · rw [if_neg (by omega)]
    simp [show ¬ 0 = k by omega]
theorem Typed.one_cell {xs : Array Value} (h : Typed xs) (o : Nat) (v : Value) (hv : ∀ q, kinds[o]? = some q → kindOk q v) : Typed (xs.setIfInBounds o v) := by
  have := h.put o [v] (fun j q x hq hx => by
    cases j with
    | zero => simp at hx; subst hx; exact hv q (by simpa using hq)
    | succ j => simp at hx)
  exact this
theorem newA_typed {xs : Array Value} (h : Typed xs) (id cost : Nat) (ed au two : Bool) : Typed (newA xs id cost ed au two) := by
  unfold newA
  refine Typed.one_cell (Typed.one_cell (Typed.one_cell (Typed.one_cell (Typed.one_cell h 0 _ ?_) 1 _ ?_) 3 _ ?_) 4 _ ?_) 5 _ ?_
  · intro q hq; rw [show kinds[0]? = some (some IntKind.u16) from rfl] at hq; cases hq; exact ⟨_, rfl⟩
  · intro q hq; rw [show kinds[1]? = some (some IntKind.u32) from rfl] at hq; cases hq; exact ⟨_, rfl⟩
  · intro q hq; rw [show kinds[3]? = some none from rfl] at hq; cases hq; exact ⟨_, rfl⟩
  · intro q hq; rw [show kinds[4]? = some none from rfl] at hq; cases hq; exact ⟨_, rfl⟩
  · intro q hq; rw [show kinds[5]? = some none from rfl] at hq; cases hq; exact ⟨_, rfl⟩
theorem sL61 : (Try.prog.info? 61).map (·.size) = some 2 := by kernel_rfl
theorem one_link (s : Nat) (two : Bool) : (#[.float .f64 s, .bool two] : Array Value).all (·.oneCell') = true := by
  refine Array.all_eq_true_iff_forall_mem.2 fun v hv => ?_
  simp at hv
  rcases hv with rfl | rfl <;> rfl
set_option maxRecDepth 20000 in
set_option maxHeartbeats 4000000 in
theorem ports_any (p : Pc) (bits : Int) (xs A : Array Value) (num : Int) (two : Bool) (w : World) (hA : Ap xs num two A) (ht : Typed xs) :
    Calls Try.prog 4 #[p.val, .int .u64 bits, .agg A] w fun e w' => e = .returned (.bool true) ∧ Below w.heap.size w w' := by
  have v0 := (var_new w p.cells 34).alloc (.cells A 56)
  have v1 : VarAt ((w.alloc (.cells p.cells 34)).alloc (.cells A 56)) (w.heap.size + 1) A 56 := by
    have := var_new (w.alloc (.cells p.cells 34)) A 56
    rwa [alloc_size] at this
  have hb0 := ((Below.refl w.heap.size w).alloc (Nat.le_refl _) (.cells p.cells 34)).alloc (by rw [alloc_size]; omega) (.cells A 56)
  have P0 := Lib.hid v0
  have A0 := Lib.hid v1
  have HB := Lib.hid hb0
  have cl := lives_ok
  have hfb := run_from8c bits
  have HA := Lib.hid hA
  have HT := Lib.hid ht
  clear v0 v1 hb0 hA ht
  generalize bits.toNat = s at *
  go_enter Try.func4, Try.ntmps4
  go_wp2_with fail
  generalize (w.alloc (.cells p.cells 34)).alloc (.cells A 56) = W at *
  refine (cl _).mono ?_
  rintro e w1 ⟨rfl, hb⟩
  have P1 := Lib.hid (P0.out.below hb P0.out.lt)
  have A1 := Lib.hid (A0.out.below hb A0.out.lt)
  have HB1 := Lib.hid (HB.out.trans (hb.mono HB.out.size))
  clear hb cl P0 A0 HB
  have f91 : w1.cell? ⟨w.heap.size + 1, 91, none⟩ = some (.bool two) := (A1.out.cell 91).trans HA.out.two
  obtain ⟨b0, b1, b2, b3, b4⟩ := P1.out.cells5
  have Z1 := Lib.hid (var_new w1 #[.float .f64 0, .bool false] 61)
  go_wp2_with (with_reducible refine stopS 61 _ _ rfl ?_)
  refine Lib.hid ?_
  refine wpList_store_whole sL61 rfl _ _ rfl (xs := #[.float .f64 s, .bool two]) rfl rfl Z1.out (one_link s two) rfl (by simp) ?_
  intro w2 hv2 hb2 _ _
  rw [putL_all #[.float .f64 0, .bool false] #[.float .f64 s, .bool two] rfl] at hv2
  have hd2 := hb2 w1.heap.size w1 (Nat.le_refl _) (box_below w1 (.cells #[.float .f64 0, .bool false] 61))
  have L2 := Lib.hid hv2
  have P2 := Lib.hid (P1.out.below hd2 P1.out.lt)
  have A2 := Lib.hid (A1.out.below hd2 A1.out.lt)
  have HB2 := Lib.hid (HB1.out.trans (hd2.mono HB1.out.size))
  have hl2 : w.heap.size + 1 < w1.heap.size := A1.out.lt
  clear f91 b0 b1 b2 b3 b4 Z1 hv2 hb2 hd2 P1 A1 HB1
  generalize w1.heap.size = lb at *
  obtain ⟨b0, b1, b2, b3, b4⟩ := P2.out.cells5
  go_upto_if 24 with fail
  go_cut [9] (fun v wx => v = .int .u32 (costP p s) ∧ wx = w2)
  case first =>
    by_cases h0 : p.co = 0
    · have e0 : (((p.co : Nat) : Int) == 0) = true := by simp [h0]
      cases hr : rt s
      · have HE : Hid (costP p s = 200000000) := Lib.hid (by unfold costP; simp [hr, h0])
        have c := fun w => right_doc s w
        rw [hr] at c
        clear hr h0
        go_wp2_with (first | (go_at_call 12; refine (c _).mono ?_; rintro e w' ⟨rfl, rfl⟩))
        go_meet
        case rel => exact ⟨by rw [HE.out]; rfl, rfl⟩
      · have HE : Hid (costP p s = costX s) := Lib.hid (by unfold costP; simp [hr, h0])
        have c := fun w => right_doc s w
        have c2 := fun w => ref_rt s w hr
        rw [hr] at c
        clear hr h0
        go_wp2_with (first | (go_at_call 12; refine (c _).mono ?_; rintro e w' ⟨rfl, rfl⟩) | (go_at_call 13; refine (c2 _).mono ?_; rintro e w' ⟨rfl, rfl⟩))
        go_meet
        case rel => exact ⟨by rw [HE.out], rfl⟩
    · have e0 : (((p.co : Nat) : Int) == 0) = false := by simp [h0]
      have HE : Hid (costP p s = p.co) := Lib.hid (by unfold costP; simp [h0])
      go_wp2_with fail
      go_meet
      case rel => exact ⟨by rw [HE.out], rfl⟩
  case rest =>
    obtain ⟨rfl, rfl⟩ := hcut
    go_upto_region 10 with fail
    go_cut [10] (fun v wx => v = .bool (twoP p two) ∧ wx = wc)
    case first =>
      have f91 : wc.cell? ⟨w.heap.size + 1, 91, none⟩ = some (.bool two) := (A2.out.cell 91).trans HA.out.two
      cases h1 : (p.pt == 1)
      · cases h2 : (p.pt != 2)
        · have HE : Hid (twoP p two = false) := Lib.hid (by unfold twoP; rw [h1, h2]; rfl)
          go_wp2_with fail
          go_meet
          case rel => exact ⟨by rw [HE.out], rfl⟩
        · have HE : Hid (twoP p two = two) := Lib.hid (by unfold twoP; rw [h1, h2]; rfl)
          go_wp2_with fail
          go_meet
          case rel => exact ⟨by rw [HE.out], rfl⟩
      · have HE : Hid (twoP p two = true) := Lib.hid (by unfold twoP; rw [h1]; rfl)
        go_wp2_with fail
        go_meet
        case rel => exact ⟨by rw [HE.out], rfl⟩
    case rest =>
      obtain ⟨rfl, rfl⟩ := hcut
      go_upto_region 11 with fail
      go_cut [11, 12] (fun y z wx => ∃ yb zb : Nat, y = .pointer (some ⟨yb, 0, none⟩) ∧ z = .pointer (some ⟨zb, 0, none⟩) ∧ yb ≠ zb ∧ VarAt wx yb xs 54 ∧ VarAt wx zb xs 54 ∧ Below wc.heap.size wc wx ∧ wc.heap.size ≤ yb ∧ wc.heap.size ≤ zb)
      case first =>
        rename_i J K9 hJ hK9
        have z := zero48
        have hZ := z48_size
        generalize z48 = Z at *
        have hlw : w.heap.size + 1 < wc.heap.size := A2.out.lt
        refine wp_region_held_drew (S := fun w' => VarAt w' (w.heap.size + 1) A 56) (by kernel_rfl) A2.out.drew (fun hS => ?_)
        refine wpAnyH_take (i := 0) (v := ?_) rfl (by kernel_rfl) (by kernel_rfl) (by kernel_rfl) (fun _ _ _ h => h) (Or.inl ⟨by rfl, ?_⟩) hS ?_
        rotate_left
        · (intro w9 hS9; go_simp; try with_reducible rfl)
        try simp only [Act.put, List.getElem_toArray, List.getElem_cons_zero, List.setIfInBounds_toArray, List.set_cons_zero, List.set_cons_succ]
        refine wpAnyH_take (i := 1) rfl (by kernel_rfl) (by kernel_rfl) (by kernel_rfl) (fun _ _ _ h => h) (yields_port (by rfl) _ rfl rfl (fun w9 hS9 => range_port hS9 HA.out.port HT.out.1) HT.out.1) hS ?_
        simp only [Act.put, List.getElem_toArray, List.getElem_cons_zero, List.getElem_cons_succ, List.setIfInBounds_toArray, List.set_cons_zero, List.set_cons_succ]
        refine wpAnyH_take (i := 2) (v := ?_) rfl (by kernel_rfl) (by kernel_rfl) (by kernel_rfl) (fun _ _ _ h => h) (Or.inl ⟨by rfl, ?_⟩) hS ?_
        rotate_left
        · (intro w9 hS9; go_simp; try with_reducible rfl)
        try simp only [Act.put, List.getElem_toArray, List.getElem_cons_zero, List.getElem_cons_succ, List.setIfInBounds_toArray, List.set_cons_zero, List.set_cons_succ]
        refine wpAnyH_take (i := 3) rfl (by kernel_rfl) (by kernel_rfl) (by kernel_rfl) (fun _ _ _ h => h) (yields_port (by rfl) _ rfl rfl (fun w9 hS9 => range_port hS9 HA.out.port HT.out.1) HT.out.1) hS ?_
        simp only [Act.put, List.getElem_toArray, List.getElem_cons_zero, List.getElem_cons_succ, List.setIfInBounds_toArray, List.set_cons_zero, List.set_cons_succ]
        refine wpAnyH_ready (rs := [4, 5]) (by kernel_rfl) (by simp) (AllReadyH.cons rfl (fun K hK => ?_) (AllReadyH.cons rfl (fun K hK => ?_) AllReadyH.nil))
        · go_simp
          refine hK.out _ _ (hS.alloc _) (fun hS => ?_)
          clear hK K
          refine wpAnyH_ready (rs := [5]) (by kernel_rfl) (by simp) (AllReadyH.cons rfl (fun K hK => ?_) AllReadyH.nil)
          go_simp
          refine hK.out _ _ (hS.alloc _) (fun hS => ?_)
          clear hK K
          have q0 := Lib.hid ((var_new wc Z 54).alloc (.cells Z 54)).drew
          have q1 := Lib.hid (show VarAt ((wc.alloc (.cells Z 54)).alloc (.cells Z 54)).drew (wc.heap.size + 1) Z 54 by
            have := var_new (wc.alloc (.cells Z 54)) Z 54
            rw [alloc_size] at this
            exact this.drew)
          have hd := Lib.hid (show Below wc.heap.size wc ((wc.alloc (.cells Z 54)).alloc (.cells Z 54)).drew from (((Below.refl wc.heap.size wc).alloc (Nat.le_refl _) _).alloc (by rw [alloc_size]; exact Nat.le_succ _) _).drew)
          generalize ((wc.alloc (.cells Z 54)).alloc (.cells Z 54)).drew = w4 at *
          refine wpAnyH_ready (rs := [6]) (by kernel_rfl) (by simp) (AllReadyH.cons rfl (fun K hK => ?_) AllReadyH.nil)
          rw [if_pos (by rfl)]
          refine wp_store_whole sP _ _ rfl (xs := xs) rfl rfl (q0.out) HT.out.one HT.out.1 (by omega) ?_
          intro w5 hv hbw ho _
          rw [putL_all _ _ (by rw [hZ, HT.out.1])] at hv
          have y5 := Lib.hid hv
          have z5 := Lib.hid (ho _ _ _ (show wc.heap.size + 1 ≠ wc.heap.size by omega) (q1.out))
          have hd5 := Lib.hid (hbw wc.heap.size wc (by omega) hd.out)
          refine hK.out _ _ (ho _ _ _ (by omega) hS) (fun hS => ?_)
          clear hK K hv hbw ho
          refine wpAnyH_ready (rs := [7]) (by kernel_rfl) (by simp) (AllReadyH.cons rfl (fun K hK => ?_) AllReadyH.nil)
          rw [if_pos (by rfl)]
          refine wp_store_whole sP _ _ rfl (xs := xs) rfl rfl (z5.out) HT.out.one HT.out.1 (by omega) ?_
          intro w6 hv hbw ho _
          rw [putL_all _ _ (by rw [hZ, HT.out.1])] at hv
          have z6 := Lib.hid hv
          have y6 := Lib.hid (ho _ _ _ (show wc.heap.size ≠ wc.heap.size + 1 by omega) (y5.out))
          have hd6 := Lib.hid (hbw wc.heap.size wc (by omega) hd5.out)
          refine hK.out _ _ (ho _ _ _ (by omega) hS) (fun hS => ?_)
          clear hK K hv hbw ho
          refine wpAnyH_done (by kernel_rfl) ?_ _
          refine hK9 _ _ (Met.intro (hJ _ _ ?_))
          (repeat apply Exists.intro)
          refine ⟨?_, rfl⟩
          exact ⟨wc.heap.size, wc.heap.size + 1, rfl, rfl, by omega, y6.out, z6.out, hd6.out, by omega, by omega⟩
        · go_simp
          refine hK.out _ _ (hS.alloc _) (fun hS => ?_)
          clear hK K
          refine wpAnyH_ready (rs := [4]) (by kernel_rfl) (by simp) (AllReadyH.cons rfl (fun K hK => ?_) AllReadyH.nil)
          go_simp
          refine hK.out _ _ (hS.alloc _) (fun hS => ?_)
          clear hK K
          have q0 := Lib.hid ((var_new wc Z 54).alloc (.cells Z 54)).drew
          have q1 := Lib.hid (show VarAt ((wc.alloc (.cells Z 54)).alloc (.cells Z 54)).drew (wc.heap.size + 1) Z 54 by
            have := var_new (wc.alloc (.cells Z 54)) Z 54
            rw [alloc_size] at this
            exact this.drew)
          have hd := Lib.hid (show Below wc.heap.size wc ((wc.alloc (.cells Z 54)).alloc (.cells Z 54)).drew from (((Below.refl wc.heap.size wc).alloc (Nat.le_refl _) _).alloc (by rw [alloc_size]; exact Nat.le_succ _) _).drew)
          generalize ((wc.alloc (.cells Z 54)).alloc (.cells Z 54)).drew = w4 at *
          refine wpAnyH_ready (rs := [6]) (by kernel_rfl) (by simp) (AllReadyH.cons rfl (fun K hK => ?_) AllReadyH.nil)
          rw [if_pos (by rfl)]
          refine wp_store_whole sP _ _ rfl (xs := xs) rfl rfl (q1.out) HT.out.one HT.out.1 (by omega) ?_
          intro w5 hv hbw ho _
          rw [putL_all _ _ (by rw [hZ, HT.out.1])] at hv
          have y5 := Lib.hid hv
          have z5 := Lib.hid (ho _ _ _ (show wc.heap.size ≠ wc.heap.size + 1 by omega) (q0.out))
          have hd5 := Lib.hid (hbw wc.heap.size wc (by omega) hd.out)
          refine hK.out _ _ (ho _ _ _ (by omega) hS) (fun hS => ?_)
          clear hK K hv hbw ho
          refine wpAnyH_ready (rs := [7]) (by kernel_rfl) (by simp) (AllReadyH.cons rfl (fun K hK => ?_) AllReadyH.nil)
          rw [if_pos (by rfl)]
          refine wp_store_whole sP _ _ rfl (xs := xs) rfl rfl (z5.out) HT.out.one HT.out.1 (by omega) ?_
          intro w6 hv hbw ho _
          rw [putL_all _ _ (by rw [hZ, HT.out.1])] at hv
          have z6 := Lib.hid hv
          have y6 := Lib.hid (ho _ _ _ (show wc.heap.size + 1 ≠ wc.heap.size by omega) (y5.out))
          have hd6 := Lib.hid (hbw wc.heap.size wc (by omega) hd5.out)
          refine hK.out _ _ (ho _ _ _ (by omega) hS) (fun hS => ?_)
          clear hK K hv hbw ho
          refine wpAnyH_done (by kernel_rfl) ?_ _
          refine hK9 _ _ (Met.intro (hJ _ _ ?_))
          (repeat apply Exists.intro)
          refine ⟨?_, rfl⟩
          exact ⟨wc.heap.size + 1, wc.heap.size, rfl, rfl, by omega, y6.out, z6.out, hd6.out, by omega, by omega⟩
      case rest =>
        obtain ⟨yb, zb, rfl, rfl, hne, hy, hz, hd, ly, lz⟩ := hcut
        have P5 := Lib.hid (P2.out.below hd P2.out.lt)
        have A5 := Lib.hid (A2.out.below hd A2.out.lt)
        have L5 := Lib.hid (L2.out.below hd L2.out.lt)
        have HB5 := Lib.hid (HB2.out.trans (hd.mono HB2.out.size))
        have hP : w.heap.size < yb := Nat.lt_of_lt_of_le P2.out.lt ly
        have hP2 : w.heap.size < zb := Nat.lt_of_lt_of_le P2.out.lt lz
        have hA' : w.heap.size + 1 < yb := Nat.lt_of_lt_of_le A2.out.lt ly
        have hA2' : w.heap.size + 1 < zb := Nat.lt_of_lt_of_le A2.out.lt lz
        have hL : lb < yb := Nat.lt_of_lt_of_le L2.out.lt ly
        have hL2 : lb < zb := Nat.lt_of_lt_of_le L2.out.lt lz
        have ca := Lib.hid (apply_any p s two num xs yb yb _ hy HT.out.1 (Nat.le_refl _))
        have Z5 := Lib.hid hz
        clear hd ly lz hy hz P2 A2 L2 HB2 b0 b1 b2 b3 b4
        obtain ⟨b0, b1, b2, b3, b4⟩ := P5.out.cells5
        obtain ⟨d0, d1⟩ := L5.out.cells2
        have f90 := (A5.out.cell 90).trans HA.out.num
        go_wp2_with fail
        refine ca.out.mono ?_
        rintro e w6 ⟨rfl, hy6, hb6, ho6⟩
        have Y6 := Lib.hid hy6
        have P6 := Lib.hid (ho6 _ _ _ (by omega) P5.out)
        have A6 := Lib.hid (ho6 _ _ _ (by omega) A5.out)
        have L6 := Lib.hid (ho6 _ _ _ (by omega) L5.out)
        have Z6 := Lib.hid (ho6 _ _ _ (by omega) Z5.out)
        have HB6 := Lib.hid (HB5.out.trans (hb6.mono (by omega)))
        clear hy6 hb6 ho6 ca P5 A5 L5 Z5 HB5 b0 b1 b2 b3 b4 d0 d1 f90
        go_wp2_with fail
        have HS0 := Lib.hid P6.out.drew
        have Y7 := Lib.hid Y6.out.drew
        have A7 := Lib.hid A6.out.drew
        have L7 := Lib.hid L6.out.drew
        have Z7 := Lib.hid Z6.out.drew
        have HB7 := Lib.hid HB6.out.drew
        clear P6 Y6 A6 L6 Z6 HB6
        refine wp_region_held_drew (S := fun w' => VarAt w' w.heap.size p.cells 34) (by kernel_rfl) HS0.out (fun hS => ?_)
        clear HS0
        generalize w6.drew = w7 at *
        refine wpAnyH_take (i := 0) (v := ?_) rfl (by kernel_rfl) (by kernel_rfl) (by kernel_rfl) (fun _ _ _ h => h) (Or.inl ⟨by rfl, ?_⟩) hS ?_
        rotate_left
        · (intro w9 hS9; go_simp; try with_reducible rfl)
        try simp only [Act.put, List.getElem_toArray, List.getElem_cons_zero, List.setIfInBounds_toArray, List.set_cons_zero, List.set_cons_succ]
        refine wpAnyH_take (i := 1) (v := ?_) rfl (by kernel_rfl) (by kernel_rfl) (by kernel_rfl) (fun _ _ _ h => h) (Or.inl ⟨by rfl, ?_⟩) hS ?_
        rotate_left
        · (intro w9 hS9; go_simp; try with_reducible rfl)
        try simp only [Act.put, List.getElem_toArray, List.getElem_cons_zero, List.getElem_cons_succ, List.setIfInBounds_toArray, List.set_cons_zero, List.set_cons_succ]
        refine wpAnyH_take (i := 2) (v := ?_) rfl (by kernel_rfl) (by kernel_rfl) (by kernel_rfl) (fun _ _ _ h => h) (Or.inl ⟨by rfl, ?_⟩) hS ?_
        rotate_left
        · (intro w9 hS9; obtain ⟨q0, q1, q2, q3, q4⟩ := hS9.cells5; go_simp; try with_reducible rfl)
        try simp only [Act.put, List.getElem_toArray, List.getElem_cons_zero, List.getElem_cons_succ, List.setIfInBounds_toArray, List.set_cons_zero, List.set_cons_succ]
        refine wpAnyH_take (i := 3) (v := ?_) rfl (by kernel_rfl) (by kernel_rfl) (by kernel_rfl) (fun _ _ _ h => h) (Or.inl ⟨by rfl, ?_⟩) hS ?_
        rotate_left
        · (intro w9 hS9; go_simp; try with_reducible rfl)
        try simp only [Act.put, List.getElem_toArray, List.getElem_cons_zero, List.getElem_cons_succ, List.setIfInBounds_toArray, List.set_cons_zero, List.set_cons_succ]
        refine wpAnyH_take (i := 4) (v := ?_) rfl (by kernel_rfl) (by kernel_rfl) (by kernel_rfl) (fun _ _ _ h => h) (Or.inl ⟨by rfl, ?_⟩) hS ?_
        rotate_left
        · (intro w9 hS9; obtain ⟨q0, q1, q2, q3, q4⟩ := hS9.cells5; go_simp; try with_reducible rfl)
        try simp only [Act.put, List.getElem_toArray, List.getElem_cons_zero, List.getElem_cons_succ, List.setIfInBounds_toArray, List.set_cons_zero, List.set_cons_succ]
        refine wpAnyH_take (i := 5) (v := ?_) rfl (by kernel_rfl) (by kernel_rfl) (by kernel_rfl) (fun _ _ _ h => h) (Or.inl ⟨by rfl, ?_⟩) hS ?_
        rotate_left
        · (intro w9 hS9; go_simp; try with_reducible rfl)
        try simp only [Act.put, List.getElem_toArray, List.getElem_cons_zero, List.getElem_cons_succ, List.setIfInBounds_toArray, List.set_cons_zero, List.set_cons_succ]
        refine wpAnyH_take (i := 6) (v := ?_) rfl (by kernel_rfl) (by kernel_rfl) (by kernel_rfl) (fun _ _ _ h => h) (Or.inl ⟨by rfl, ?_⟩) hS ?_
        rotate_left
        · (intro w9 hS9; go_simp; try with_reducible rfl)
        try simp only [Act.put, List.getElem_toArray, List.getElem_cons_zero, List.getElem_cons_succ, List.setIfInBounds_toArray, List.set_cons_zero, List.set_cons_succ]
        obtain ⟨v0, f0⟩ := Z7.out.some (k := 0) (by (try simp only [Array.size_setIfInBounds]); rw [HT.out.1]; omega)
        have fz := Z7.out.frozen
        refine wpAnyH_ready (rs := [7]) (by kernel_rfl) (by simp) (AllReadyH.cons rfl (fun K hK => ?_) AllReadyH.nil)
        go_simp
        have Z8 := Lib.hid (Z7.out.set 0 (.int .u16 ((0 : Nat) : Int)))
        have Y8 := Lib.hid (Y7.out.set_other (p := ⟨zb, 0, none⟩) (show yb ≠ zb by omega) (.int .u16 ((0 : Nat) : Int)))
        have A8 := Lib.hid (A7.out.set_other (p := ⟨zb, 0, none⟩) (show w.heap.size + 1 ≠ zb by omega) (.int .u16 ((0 : Nat) : Int)))
        have L8 := Lib.hid (L7.out.set_other (p := ⟨zb, 0, none⟩) (show lb ≠ zb by omega) (.int .u16 ((0 : Nat) : Int)))
        have HB8 := Lib.hid (HB7.out.setCell (p := ⟨zb, 0, none⟩) (show w.heap.size ≤ zb by omega) (.int .u16 ((0 : Nat) : Int)))
        refine hK.out _ _ (hS.set_other (p := ⟨zb, 0, none⟩) (show w.heap.size ≠ zb by omega) (.int .u16 ((0 : Nat) : Int))) (fun hS => ?_)
        clear hK K f0 fz Z7 Y7 A7 L7 HB7
        (try simp only [Int.natCast_zero, Nat.cast_zero, Int.ofNat_zero] at *)
        generalize w7.setCell ⟨zb, 0, none⟩ (.int .u16 0) = w8 at *
        refine wpAnyH_take (i := 8) (v := ?_) rfl (by kernel_rfl) (by kernel_rfl) (by kernel_rfl) (fun _ _ _ h => h) (Or.inl ⟨by rfl, ?_⟩) hS ?_
        rotate_left
        · (intro w9 hS9; go_simp; try with_reducible rfl)
        try simp only [Act.put, List.getElem_toArray, List.getElem_cons_zero, List.getElem_cons_succ, List.setIfInBounds_toArray, List.set_cons_zero, List.set_cons_succ]
        obtain ⟨v0, f0⟩ := Z8.out.some (k := 1) (by (try simp only [Array.size_setIfInBounds]); rw [HT.out.1]; omega)
        have fz := Z8.out.frozen
        refine wpAnyH_ready (rs := [9]) (by kernel_rfl) (by simp) (AllReadyH.cons rfl (fun K hK => ?_) AllReadyH.nil)
        go_simp
        have Z9 := Lib.hid (Z8.out.set 1 (.int .u32 ((costP p s : Nat) : Int)))
        have Y9 := Lib.hid (Y8.out.set_other (p := ⟨zb, 1, none⟩) (show yb ≠ zb by omega) (.int .u32 ((costP p s : Nat) : Int)))
        have A9 := Lib.hid (A8.out.set_other (p := ⟨zb, 1, none⟩) (show w.heap.size + 1 ≠ zb by omega) (.int .u32 ((costP p s : Nat) : Int)))
        have L9 := Lib.hid (L8.out.set_other (p := ⟨zb, 1, none⟩) (show lb ≠ zb by omega) (.int .u32 ((costP p s : Nat) : Int)))
        have HB9 := Lib.hid (HB8.out.setCell (p := ⟨zb, 1, none⟩) (show w.heap.size ≤ zb by omega) (.int .u32 ((costP p s : Nat) : Int)))
        refine hK.out _ _ (hS.set_other (p := ⟨zb, 1, none⟩) (show w.heap.size ≠ zb by omega) (.int .u32 ((costP p s : Nat) : Int))) (fun hS => ?_)
        clear hK K f0 fz Z8 Y8 A8 L8 HB8
        (try simp only [Int.natCast_zero, Nat.cast_zero, Int.ofNat_zero] at *)
        generalize w8.setCell ⟨zb, 1, none⟩ (.int .u32 ((costP p s : Nat) : Int)) = w9 at *
        refine wpAnyH_take (i := 10) (v := ?_) rfl (by kernel_rfl) (by kernel_rfl) (by kernel_rfl) (fun _ _ _ h => h) (Or.inl ⟨by rfl, ?_⟩) hS ?_
        rotate_left
        · (intro w9 hS9; go_simp; try with_reducible rfl)
        try simp only [Act.put, List.getElem_toArray, List.getElem_cons_zero, List.getElem_cons_succ, List.setIfInBounds_toArray, List.set_cons_zero, List.set_cons_succ]
        obtain ⟨v0, f0⟩ := Z9.out.some (k := 3) (by (try simp only [Array.size_setIfInBounds]); rw [HT.out.1]; omega)
        have fz := Z9.out.frozen
        refine wpAnyH_ready (rs := [11]) (by kernel_rfl) (by simp) (AllReadyH.cons rfl (fun K hK => ?_) AllReadyH.nil)
        go_simp
        have Z10 := Lib.hid (Z9.out.set 3 (.bool p.ed))
        have Y10 := Lib.hid (Y9.out.set_other (p := ⟨zb, 3, none⟩) (show yb ≠ zb by omega) (.bool p.ed))
        have A10 := Lib.hid (A9.out.set_other (p := ⟨zb, 3, none⟩) (show w.heap.size + 1 ≠ zb by omega) (.bool p.ed))
        have L10 := Lib.hid (L9.out.set_other (p := ⟨zb, 3, none⟩) (show lb ≠ zb by omega) (.bool p.ed))
        have HB10 := Lib.hid (HB9.out.setCell (p := ⟨zb, 3, none⟩) (show w.heap.size ≤ zb by omega) (.bool p.ed))
        refine hK.out _ _ (hS.set_other (p := ⟨zb, 3, none⟩) (show w.heap.size ≠ zb by omega) (.bool p.ed)) (fun hS => ?_)
        clear hK K f0 fz Z9 Y9 A9 L9 HB9
        (try simp only [Int.natCast_zero, Nat.cast_zero, Int.ofNat_zero] at *)
        generalize w9.setCell ⟨zb, 3, none⟩ (.bool p.ed) = w10 at *
        refine wpAnyH_take (i := 12) (v := ?_) rfl (by kernel_rfl) (by kernel_rfl) (by kernel_rfl) (fun _ _ _ h => h) (Or.inl ⟨by rfl, ?_⟩) hS ?_
        rotate_left
        · (intro w9 hS9; go_simp; try with_reducible rfl)
        try simp only [Act.put, List.getElem_toArray, List.getElem_cons_zero, List.getElem_cons_succ, List.setIfInBounds_toArray, List.set_cons_zero, List.set_cons_succ]
        obtain ⟨v0, f0⟩ := Z10.out.some (k := 4) (by (try simp only [Array.size_setIfInBounds]); rw [HT.out.1]; omega)
        have fz := Z10.out.frozen
        refine wpAnyH_ready (rs := [13]) (by kernel_rfl) (by simp) (AllReadyH.cons rfl (fun K hK => ?_) AllReadyH.nil)
        go_simp
        have Z11 := Lib.hid (Z10.out.set 4 (.bool p.au))
        have Y11 := Lib.hid (Y10.out.set_other (p := ⟨zb, 4, none⟩) (show yb ≠ zb by omega) (.bool p.au))
        have A11 := Lib.hid (A10.out.set_other (p := ⟨zb, 4, none⟩) (show w.heap.size + 1 ≠ zb by omega) (.bool p.au))
        have L11 := Lib.hid (L10.out.set_other (p := ⟨zb, 4, none⟩) (show lb ≠ zb by omega) (.bool p.au))
        have HB11 := Lib.hid (HB10.out.setCell (p := ⟨zb, 4, none⟩) (show w.heap.size ≤ zb by omega) (.bool p.au))
        refine hK.out _ _ (hS.set_other (p := ⟨zb, 4, none⟩) (show w.heap.size ≠ zb by omega) (.bool p.au)) (fun hS => ?_)
        clear hK K f0 fz Z10 Y10 A10 L10 HB10
        (try simp only [Int.natCast_zero, Nat.cast_zero, Int.ofNat_zero] at *)
        generalize w10.setCell ⟨zb, 4, none⟩ (.bool p.au) = w11 at *
        refine wpAnyH_take (i := 14) (v := ?_) rfl (by kernel_rfl) (by kernel_rfl) (by kernel_rfl) (fun _ _ _ h => h) (Or.inl ⟨by rfl, ?_⟩) hS ?_
        rotate_left
        · (intro w9 hS9; go_simp; try with_reducible rfl)
        try simp only [Act.put, List.getElem_toArray, List.getElem_cons_zero, List.getElem_cons_succ, List.setIfInBounds_toArray, List.set_cons_zero, List.set_cons_succ]
        obtain ⟨v0, f0⟩ := Z11.out.some (k := 5) (by (try simp only [Array.size_setIfInBounds]); rw [HT.out.1]; omega)
        have fz := Z11.out.frozen
        refine wpAnyH_ready (rs := [15]) (by kernel_rfl) (by simp) (AllReadyH.cons rfl (fun K hK => ?_) AllReadyH.nil)
        go_simp
        have Z12 := Lib.hid (Z11.out.set 5 (.bool (twoP p two)))
        have Y12 := Lib.hid (Y11.out.set_other (p := ⟨zb, 5, none⟩) (show yb ≠ zb by omega) (.bool (twoP p two)))
        have A12 := Lib.hid (A11.out.set_other (p := ⟨zb, 5, none⟩) (show w.heap.size + 1 ≠ zb by omega) (.bool (twoP p two)))
        have L12 := Lib.hid (L11.out.set_other (p := ⟨zb, 5, none⟩) (show lb ≠ zb by omega) (.bool (twoP p two)))
        have HB12 := Lib.hid (HB11.out.setCell (p := ⟨zb, 5, none⟩) (show w.heap.size ≤ zb by omega) (.bool (twoP p two)))
        refine hK.out _ _ (hS.set_other (p := ⟨zb, 5, none⟩) (show w.heap.size ≠ zb by omega) (.bool (twoP p two))) (fun hS => ?_)
        clear hK K f0 fz Z11 Y11 A11 L11 HB11
        (try simp only [Int.natCast_zero, Nat.cast_zero, Int.ofNat_zero] at *)
        generalize w11.setCell ⟨zb, 5, none⟩ (.bool (twoP p two)) = w12 at *
        refine wpAnyH_done (by kernel_rfl) ?_ _
        have P12 := Lib.hid hS
        clear hS
        have hZA : Hid (VarAt w12 zb (newA xs 0 (costP p s) p.ed p.au (twoP p two)) 54) := Lib.hid Z12.out
        clear Z12
        have f0 := P12.out.cells5.1
        have f90 : w12.cell? ⟨w.heap.size + 1, 90, none⟩ = some (.int .i64 num) := (A12.out.cell 90).trans HA.out.num
        go_upto_region 14 with fail
        go_cut [84] (fun v wx => v = .bool (ptB p.pr num) ∧ wx = w12)
        case first =>
          clear HA HT hZA L12 Y12 A12 P12 HB12 hfb
          generalize p.pr = q at *
          go_wp2_with fail
          · go_meet
            case rel => exact ⟨congrArg Value.bool (by unfold ptB stB; simp [*]), rfl⟩
          all_goals
            go_meet
            case rel => exact ⟨congrArg Value.bool (by unfold ptB stB; simp [*] <;> omega), rfl⟩
        case rest =>
          obtain ⟨rfl, rfl⟩ := hcut
          have hfz := hZA.out.frozen
          obtain ⟨v0, hf0⟩ := hZA.out.some (k := 0) (by rw [newA_size, HT.out.1]; omega)
          cases hpt : ptB p.pr num
          · have e0 : idP p.pr num = 0 := by unfold idP; rw [hpt]; rfl
            have Z12 := hZA
            rw [← e0] at Z12
            clear e0 hpt hZA hfz hf0 f0 f90 A12
            obtain ⟨b0, b1, b2, b3, b4⟩ := P12.out.cells5
            obtain ⟨d0, d1⟩ := L12.out.cells2
            have cp := pathCost_any p s two
            have ct := twoEnds_any p s two
            go_wp2_with fail
            refine (cp _).mono ?_
            rintro e w14 ⟨rfl, hb⟩
            have P14 := Lib.hid (P12.out.below hb P12.out.lt)
            have L14 := Lib.hid (L12.out.below hb L12.out.lt)
            have Y14 := Lib.hid (Y12.out.below hb Y12.out.lt)
            have Z14 := Lib.hid (Z12.out.below hb Z12.out.lt)
            have HB14 := Lib.hid (HB12.out.trans (hb.mono HB12.out.size))
            clear hb cp b0 b1 b2 b3 b4 d0 d1 P12 L12 Y12 Z12 HB12
            obtain ⟨b0, b1, b2, b3, b4⟩ := P14.out.cells5
            obtain ⟨d0, d1⟩ := L14.out.cells2
            go_wp2_with fail
            refine (ct _).mono ?_
            rintro e w15 ⟨rfl, hb⟩
            have Y15 := Lib.hid (Y14.out.below hb Y14.out.lt)
            have Z15 := Lib.hid (Z14.out.below hb Z14.out.lt)
            have HB15 := Lib.hid (HB14.out.trans (hb.mono HB14.out.size))
            clear hb ct b0 b1 b2 b3 b4 d0 d1 P14 L14 Y14 Z14 HB14
            have hty := newA_typed HT.out (idP p.pr num) (costP p s) p.ed p.au (twoP p two)
            have ne := port_eql hty
            have g := gP
            have hsz := Lib.hid hty.1
            clear hty
            generalize newA xs (idP p.pr num) (costP p s) p.ed p.au (twoP p two) = ys at *
            go_wp2_with (with_reducible refine stopL 54 _ rfl ?_)
            refine Lib.hid ?_
            refine wpList_load_want uP rfl sP (by rfl) _ rfl rfl (range_whole Y15.out) hsz.out ?_
            refine wpList_load_want uP rfl sP (by rfl) _ rfl rfl (range_whole Z15.out) hsz.out ?_
            go_wp2_with fail
            go_ret
            exact ⟨ret_bool (by simp), HB15.out⟩
          · obtain ⟨q, hq⟩ : ∃ q : Nat, p.pr = q := ⟨p.pr.toNat, by unfold ptB stB at hpt; simp at hpt; omega⟩
            obtain ⟨r, hr⟩ : ∃ r : Nat, num = r := ⟨num.toNat, by unfold ptB at hpt; simp at hpt; omega⟩
            rw [hq] at f0
            rw [hr] at f90
            have e0 : idP p.pr num = q / 16 * 4096 + r := by unfold idP; rw [hpt, hq, hr]; rfl
            rw [hq, hr] at hpt
            obtain ⟨N, Q, R, p1, p2, -, -, -, -, -, -, -, p8, p9, p10, p11⟩ := ports_facts hpt
            rw [p1] at e0
            have p12 := u16_small p2
            have HE := Lib.hid e0
            clear e0 hpt p1 hq hr
            go_upto_region 16 with fail
            have Z13 := Lib.hid (show VarAt (wc.setCell ⟨zb, 0, none⟩ (.int .u16 N)) zb (newA xs (idP p.pr num) (costP p s) p.ed p.au (twoP p two)) 54 by
              have := hZA.out.set 0 (.int .u16 N)
              rw [newA_again] at this
              rw [HE.out]
              exact this)
            have P13 := Lib.hid (P12.out.set_other (p := ⟨zb, 0, none⟩) (show w.heap.size ≠ zb by omega) (.int .u16 N))
            have L13 := Lib.hid (L12.out.set_other (p := ⟨zb, 0, none⟩) (show lb ≠ zb by omega) (.int .u16 N))
            have Y13 := Lib.hid (Y12.out.set_other (p := ⟨zb, 0, none⟩) (show yb ≠ zb by omega) (.int .u16 N))
            have HB13 := Lib.hid (HB12.out.setCell (p := ⟨zb, 0, none⟩) (show w.heap.size ≤ zb by omega) (.int .u16 N))
            clear HE P12 L12 Y12 A12 HB12 hZA hfz hf0 f0 f90 p8 p9 p10 p11 p12 p2
            generalize wc.setCell ⟨zb, 0, none⟩ (.int .u16 N) = w13 at *
            obtain ⟨b0, b1, b2, b3, b4⟩ := P13.out.cells5
            obtain ⟨d0, d1⟩ := L13.out.cells2
            have cp := pathCost_any p s two
            have ct := twoEnds_any p s two
            go_wp2_with fail
            refine (cp _).mono ?_
            rintro e w14 ⟨rfl, hb⟩
            have P14 := Lib.hid (P13.out.below hb P13.out.lt)
            have L14 := Lib.hid (L13.out.below hb L13.out.lt)
            have Y14 := Lib.hid (Y13.out.below hb Y13.out.lt)
            have Z14 := Lib.hid (Z13.out.below hb Z13.out.lt)
            have HB14 := Lib.hid (HB13.out.trans (hb.mono HB13.out.size))
            clear hb cp b0 b1 b2 b3 b4 d0 d1 P13 L13 Y13 Z13 HB13
            obtain ⟨b0, b1, b2, b3, b4⟩ := P14.out.cells5
            obtain ⟨d0, d1⟩ := L14.out.cells2
            go_wp2_with fail
            refine (ct _).mono ?_
            rintro e w15 ⟨rfl, hb⟩
            have Y15 := Lib.hid (Y14.out.below hb Y14.out.lt)
            have Z15 := Lib.hid (Z14.out.below hb Z14.out.lt)
            have HB15 := Lib.hid (HB14.out.trans (hb.mono HB14.out.size))
            clear hb ct b0 b1 b2 b3 b4 d0 d1 P14 L14 Y14 Z14 HB14
            have hty := newA_typed HT.out (idP p.pr num) (costP p s) p.ed p.au (twoP p two)
            have ne := port_eql hty
            have g := gP
            have hsz := Lib.hid hty.1
            clear hty
            generalize newA xs (idP p.pr num) (costP p s) p.ed p.au (twoP p two) = ys at *
            go_wp2_with (with_reducible refine stopL 54 _ rfl ?_)
            refine Lib.hid ?_
            refine wpList_load_want uP rfl sP (by rfl) _ rfl rfl (range_whole Y15.out) hsz.out ?_
            refine wpList_load_want uP rfl sP (by rfl) _ rfl rfl (range_whole Z15.out) hsz.out ?_
            go_wp2_with fail
            go_ret
            exact ⟨ret_bool (by simp), HB15.out⟩
end Go.Proofs.Ytiebiajpeocecaa
