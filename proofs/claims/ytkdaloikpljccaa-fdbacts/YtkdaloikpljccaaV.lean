/- The model's at. -/
import Derived.Test.YtkdaloikpljccaaU
namespace Go.Proofs.Ytkdaloikpljccaa
open Go.RowKit Go.Sort Go.Maps
variable {w w' : World} {mb B : Nat} {v : Value} {most : Int} {l : List Ent}
theorem no_has {l : List Ent} (hu : Up l) {n k : Nat} (h1 : ∀ i e, i < k → l[i]? = some e → e.n < n) (h2 : ∀ e, l[k]? = some e → n < e.n) (hk : k ≤ l.length) : has l n = false := by
  refine has_not (fun e he hen => ?_)
  obtain ⟨i, hi⟩ := List.mem_iff_getElem?.1 he
  by_cases h : i < k
  · have := h1 i e h hi
    omega
  · have hil := (List.getElem?_eq_some_iff.1 hi).1
    have hkl : k < l.length := by omega
    have h3 := h2 _ (List.getElem?_eq_getElem hkl)
    by_cases hik : i = k
    · subst hik
      have := h2 e hi
      omega
    · have h4 := (List.pairwise_iff_getElem.1 hu.up) k i hkl hil (by omega)
      have h5 : l[i] = e := by rw [List.getElem?_eq_getElem hil] at hi; cases hi; rfl
      rw [h5] at h4
      omega

set_option maxHeartbeats 1000000 in
theorem at_any (h : Mdl w mb v most B l) {n : Nat} (hn : n < 281474976710656) :
    Calls Try.prog 19 #[.pointer (some ⟨mb, 0, none⟩), macN n] w fun e w' => e = .returned (.tuple #[.int .i64 (pos l n : Nat), .bool (has l n)]) ∧ Below w.heap.size w w' := by
  obtain ⟨⟨p, cap, hvs⟩, hrow⟩ := h.slice
  have hb := box_below w (macO (ofN n) 24)
  have ha := box_at w (ofN n) 24
  have hu := h.up
  have c0 : ∀ wr, Below (w.heap.size + 1) (w.alloc (macO (ofN n) 24)) wr → wr.cell? ⟨mb, 0, none⟩ = some v := fun wr hw => by
    have := ((h.row.below hb h.row.lt).below hw (Nat.lt_succ_of_lt h.row.lt)).cell 0
    simpa using this
  have hrows : ∀ wr g, Row10 w g l → Below (w.heap.size + 1) (w.alloc (macO (ofN n) 24)) wr → Row10 wr g l := fun wr g hr hw => (hr.below hb).below (by rw [alloc_size]; exact hw)
  have hA : ∀ wr, Below (w.heap.size + 1) (w.alloc (macO (ofN n) 24)) wr → At wr w.heap.size (ofN n) := fun wr hw => ha.below hw (by omega)
  have hfew := h.few
  have hlt := h.up.lt
  have r0 := c0 _ (Below.refl _ _)
  have HC : Aside _ := c0
  have HROWS : Aside _ := hrows
  have HA : Aside _ := hA
  have HB := Lib.hid hb
  have HU := Lib.hid hu
  have HLT : Aside _ := hlt
  clear c0 hrows hA hb hu hlt ha h
  subst hvs
  go_enter Try.func19, Try.ntmps19
  go_wp2
  go_loopw [13] (fun i wr => ∃ k : Nat, k ≤ l.length ∧ i = .int .i64 k ∧ Below (w.heap.size + 1) (w.alloc (macO (ofN n) 24)) wr ∧ ∀ i e, i < k → l[i]? = some e → e.n < n) (fun i _ => l.length - (intOf i).toNat)
  case atStart => exact ⟨0, Nat.zero_le _, rfl, Below.refl _ _, fun i e h => absurd h (Nat.not_lt_zero _)⟩
  case round =>
    obtain ⟨k, hk, rfl, hbw, hless⟩ := hrel
    have hws : w.heap.size + 1 ≤ wr.heap.size := by have := hbw.size; rw [alloc_size] at this; exact this
    by_cases hlt : k < l.length
    · obtain ⟨g, rfl, hr0⟩ : ∃ g, p = some ⟨g, 0, none⟩ ∧ Row10 w g l := by
        rcases hrow with rfl | ⟨g, cap', he, hr, _⟩
        · simp at hlt
        · simp only [Value.slice.injEq] at he
          exact ⟨g, he.1, hr⟩
      obtain ⟨e, he⟩ : ∃ e, l[k]? = some e := ⟨_, List.getElem?_eq_getElem hlt⟩
      obtain ⟨k0, k1, k2, k3, k4, k5, k6, k7, k8, k9⟩ := (HROWS.out wr g hr0 hbw).cells he
      have i0 := idx29 g 0 l.length cap k hlt
      simp only [Nat.zero_add] at i0
      have hen := HLT.out e (List.mem_of_getElem? he)
      have hbw1 := hbw.alloc hws (.cells (entC e) 39)
      have hx1 := entCells (var_new wr (entC e) 39)
      obtain ⟨x0, x1, x2, x3, x4, x5, _⟩ := hx1
      have hA1 := HA.out _ hbw1
      obtain ⟨a0, a1, a2, a3, a4, a5⟩ := hA1.n
      have heq := mac_eq e.n n hen hn
      simp only [macN, macV] at heq
      have hg := g23
      have HLESS := Lib.hid hless
      have HBW1 := Lib.hid hbw1
      have HA1 := Lib.hid hA1
      have HE := Lib.hid he
      have HR0 := Lib.hid hr0
      clear hless hbw hbw1 hA1 hrow hr0
      by_cases hnn : e.n = n
      · have hpos : pos l n = k := pos_eq hk (fun i e h h2 => HLESS.out i e h h2) (fun e' h' => by rw [HE.out] at h'; cases h'; omega)
        have hhas : has l n = true := (has_iff HU.out).2 ⟨e, List.mem_of_getElem? HE.out, hnn⟩
        have ht : (e.n == n) = true := by simp [hnn]
        rw [ht] at heq
        have HP := Lib.hid hpos
        have HH := Lib.hid hhas
        clear he hpos hhas ht hnn
        go_wp2
        first | go_ret | go_ret2
        exact ⟨by rw [HP.out, HH.out]; rfl, HB.out.trans (HBW1.out.mono (Nat.le_succ _))⟩
      · have ht : (e.n == n) = false := by simp [hnn]
        rw [ht] at heq
        have cx : ∀ d os, Calls Try.prog 18 #[macN e.n] (grow (redrawn (wr.alloc (.cells (entC e) 39)) d) os) fun e' w'' => e' = .returned (.int .u64 (e.n : Nat)) ∧ ∃ p : Regrown, w'' = grow (redrawn (wr.alloc (.cells (entC e) 39)) p.d) p.os := fun d os => by
          have := Calls.regrown_of (refNumber_any (ofN e.n) (ofN_lt e.n) (grow (redrawn (wr.alloc (.cells (entC e) 39)) d) os))
          rw [mac_num hen] at this
          exact this
        have cy : ∀ d os, Calls Try.prog 18 #[macN n] (grow (redrawn (wr.alloc (.cells (entC e) 39)) d) os) fun e' w'' => e' = .returned (.int .u64 (n : Nat)) ∧ ∃ p : Regrown, w'' = grow (redrawn (wr.alloc (.cells (entC e) 39)) p.d) p.os := fun d os => by
          have := Calls.regrown_of (refNumber_any (ofN n) (ofN_lt n) (grow (redrawn (wr.alloc (.cells (entC e) 39)) d) os))
          rw [mac_num hn] at this
          exact this
        have hax := fun d os => HA1.out.grown d os
        have y0 := fun d os => (hax d os).n.1
        have y1 := fun d os => (hax d os).n.2.1
        have y2 := fun d os => (hax d os).n.2.2.1
        have y3 := fun d os => (hax d os).n.2.2.2.1
        have y4 := fun d os => (hax d os).n.2.2.2.2.1
        have y5 := fun d os => (hax d os).n.2.2.2.2.2
        have hex := fun d os => entCells ((var_new wr (entC e) 39).below (below_regrown _ d os) (var_new wr (entC e) 39).lt)
        have z0 := fun d os => (hex d os).1
        have z1 := fun d os => (hex d os).2.1
        have z2 := fun d os => (hex d os).2.2.1
        have z3 := fun d os => (hex d os).2.2.2.1
        have z4 := fun d os => (hex d os).2.2.2.2.1
        have z5 := fun d os => (hex d os).2.2.2.2.2.1
        clear hax hex
        by_cases hgt : n < e.n
        · have hpos : pos l n = k := pos_eq hk (fun i e h h2 => HLESS.out i e h h2) (fun e' h' => by rw [HE.out] at h'; cases h'; omega)
          have hhas : has l n = false := no_has HU.out (fun i e h h2 => HLESS.out i e h h2) (fun e' h' => by rw [HE.out] at h'; cases h'; omega) hk
          have HP := Lib.hid hpos
          have HH := Lib.hid hhas
          clear he hpos hhas hnn ht
          go_wp2
          refine wp_region_quiet_below (by kernel_rfl) (by kernel_rfl) ?_
          repeat (go_big_quiet_step (first | with_reducible exact cx _ _ | with_reducible exact cy _ _))
          refine wpQuiet_nil ?_
          intro _ hw'
          obtain ⟨⟨dq, osq⟩, hw''⟩ := hw'
          subst hw''
          go_wp2
          first | go_ret | go_ret2
          exact ⟨by rw [HP.out, HH.out]; rfl, HB.out.trans ((HBW1.out.mono (Nat.le_succ _)).trans ((below_regrown (wr.alloc (.cells (entC e) 39)) dq osq).mono (by rw [alloc_size]; omega)))⟩
        · have hle : e.n < n := by omega
          clear he hnn ht hgt
          go_wp2
          refine wp_region_quiet_below (by kernel_rfl) (by kernel_rfl) ?_
          repeat (go_big_quiet_step (first | with_reducible exact cx _ _ | with_reducible exact cy _ _))
          refine wpQuiet_nil ?_
          intro _ hw'
          obtain ⟨⟨dq, osq⟩, hw''⟩ := hw'
          subst hw''
          go_wp2
          go_roundw
          case rel => exact ⟨k + 1, hlt, by go_num, HBW1.out.trans ((below_regrown (wr.alloc (.cells (entC e) 39)) dq osq).mono (by rw [alloc_size]; omega)), fun i e' h h2 => by
            by_cases hik : i = k
            · subst hik
              rw [HE.out] at h2
              cases h2
              exact hle
            · exact HLESS.out i e' (by omega) h2⟩
          case measure => simp [intOf]; omega
    · have hkl : k = l.length := by omega
      subst hkl
      have hpos : pos l n = l.length := pos_eq (Nat.le_refl _) (fun i e h h2 => hless i e h h2) (fun e' h' => by simp at h')
      have hhas : has l n = false := no_has HU.out (fun i e h h2 => hless i e h h2) (fun e' h' => by simp at h') (Nat.le_refl _)
      have c0 := HC.out wr hbw
      have HP := Lib.hid hpos
      have HH := Lib.hid hhas
      have HBW := Lib.hid hbw
      clear hpos hhas hless hbw
      go_wp2
      first | go_ret | go_ret2
      exact ⟨by rw [HP.out, HH.out]; rfl, HB.out.trans (HBW.out.mono (Nat.le_succ _))⟩
end Go.Proofs.Ytkdaloikpljccaa
