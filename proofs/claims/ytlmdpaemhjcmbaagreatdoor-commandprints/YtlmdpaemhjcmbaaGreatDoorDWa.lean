/- The library's contracts as the commands' functions want them; contracts of the small parsers. -/
import Derived.Test.YtlmdpaemhjcmbaaGreatDoorDMd
import Derived.Test.YtlmdpaemhjcmbaaGreatDoorDSh
import Derived.WalkSmall
import Derived.Lib.AppendIntMem
namespace Go.Proofs.YtlmdpaemhjcmbaaGreatDoor.Cd
open Go.RowKit Go.Sort Go.Lib

/-- What is asked of the variables that are set at the start. -/
structure Env (w : World) : Prop where
  forms : ∀ k, k < 15 → w.cell? ⟨0, k, none⟩ = some (strV (formT k))
  links : ∀ k : Nat, k < 3 → w.cell? ⟨1, k, none⟩ = some (strV (linkT k))
  most : ∃ m, w.cell? ⟨2, 0, none⟩ = some (.int .i64 m)
  tab : TabIs Tryz.prog w "internal/strconv.uint64pow10" .u64 pow10Tab
  esyn : ∃ te pe, w.cell? ⟨6, 0, none⟩ = some (.iface te pe)
  erng : ∃ te pe, w.cell? ⟨7, 0, none⟩ = some (.iface te pe)
theorem gb5 : Tryz.prog.globalNamed "internal/strconv.uint64pow10" = some 5 := by kernel_rfl
theorem Env.lt {w : World} (h : Env w) : 7 < w.heap.size := by
  obtain ⟨te, pe, h⟩ := h.erng
  exact Lib.lt_of_cell h
theorem Env.below {w w' : World} (h : Env w) (hb : Below w.heap.size w w') : Env w' := by
  have hl := h.lt
  have c : ∀ (g k : Nat), g < 8 → w'.cell? ⟨g, k, none⟩ = w.cell? ⟨g, k, none⟩ := fun g k hg => hb.cell (by show g < w.heap.size; omega)
  exact ⟨fun k hk => (c 0 k (by omega)).trans (h.forms k hk), fun k hk => (c 1 k (by omega)).trans (h.links k hk), by rw [c 2 0 (by omega)]; exact h.most,
    var?_below hb gb5 (by omega) h.tab, by rw [c 6 0 (by omega)]; exact h.esyn, by rw [c 7 0 (by omega)]; exact h.erng⟩

/-- Words that lie one behind the other. -/
def WIn (w : World) (b : Nat) (ws : List (List UInt8)) : Prop := b < w.heap.size ∧ ∀ j x, ws[j]? = some x → w.cell? ⟨b, j, none⟩ = some (strV x)
theorem WIn.below {w w' : World} {b B : Nat} {ws : List (List UInt8)} (h : WIn w b ws) (hb : Below B w w') (hB : b < B) : WIn w' b ws :=
  ⟨Nat.lt_of_lt_of_le h.1 hb.size, fun j x hj => (hb.cell hB).trans (h.2 j x hj)⟩
theorem sp_map (s : List UInt8) : splitB ⟨#[32]⟩ 0 (countB ⟨⟨s⟩⟩ ⟨#[32]⟩) ⟨⟨s⟩⟩ = (sp s).map fun l => ⟨⟨l⟩⟩ := by
  have h := splitB_data ⟨#[32]⟩ 0 (countB ⟨⟨s⟩⟩ ⟨#[32]⟩) ⟨⟨s⟩⟩
  have e : splitK [32] 0 (count s [32]) s = sp s := split_sp s
  have h' : (splitB ⟨#[32]⟩ 0 (countB ⟨⟨s⟩⟩ ⟨#[32]⟩) ⟨⟨s⟩⟩).map (·.data.toList) = sp s := h.trans e
  rw [← h', List.map_map]
  conv => lhs; rw [← List.map_id (splitB ⟨#[32]⟩ 0 (countB ⟨⟨s⟩⟩ ⟨#[32]⟩) ⟨⟨s⟩⟩)]
  exact List.map_congr_left fun a _ => rfl
theorem split_any (s : List UInt8) (hs : s.length < 4294967281) (w : World) (he : Env w) :
    Calls Tryz.prog 26 #[strV s, strV [32]] w fun e w' => e = .returned (.slice (some ⟨w.heap.size, 0, none⟩) (sp s).length (sp s).length) ∧ WIn w' w.heap.size (sp s) ∧ CA w' w.heap.size ((sp s).map strV).toArray 9 ∧ Below w.heap.size w w' := by
  obtain ⟨m, hm⟩ := he.most
  refine (Tryz.strings_Split ⟨⟨s⟩⟩ ⟨#[32]⟩ m w hs hm (by decide)).mono ?_
  rintro e w' ⟨rfl, rfl⟩
  have hl : countB ⟨⟨s⟩⟩ ⟨#[32]⟩ + 1 = (sp s).length := by
    rw [← splitB_all ⟨#[32]⟩ (by decide) 0 _ ⟨⟨s⟩⟩ rfl, sp_map, List.length_map]
  have hc : ((splitB ⟨#[32]⟩ 0 (countB ⟨⟨s⟩⟩ ⟨#[32]⟩) ⟨⟨s⟩⟩).map Value.string) = (sp s).map strV := by rw [sp_map, List.map_map]; rfl
  have hv : CA (w.alloc (.cells ((sp s).map strV).toArray 9)) w.heap.size ((sp s).map strV).toArray 9 := var_new _ _ _
  rw [hl, hc]
  refine ⟨rfl, ⟨hv.lt, fun j x hj => ?_⟩, hv, box_below _ _⟩
  rw [hv.cell]; simp [hj]
theorem itoa_any (n : Int) (h0 : -9223372036854775808 ≤ n) (h1 : n ≤ 9223372036854775807) (w : World) (he : Env w) :
    Calls Tryz.prog 41 #[.int .i64 n] w fun e w' => e = .returned (strV (itoa n)) ∧ Below w.heap.size w w' := by
  refine (Tryz.strconv_Itoa n h0 h1 w he.tab).mono ?_
  rintro e w' ⟨rfl, k, os, rfl⟩
  exact ⟨rfl, Lib.below_grow _ _ (Nat.le_refl _) _ _⟩

/-- What Atoi answers: a number, or an error that isn't nil. -/
theorem atoi_any (s : List UInt8) (hs : s.length ≤ 281474976710656) (w : World) (he : Env w) :
    Calls Tryz.prog 69 #[strV s] w fun e w' => ((∃ v, atoiAll s = .ok v ∧ e = .returned (.tuple #[.int .i64 v, .nilIface])) ∨ ((∀ v, atoiAll s ≠ .ok v) ∧ ∃ v N, e = .returned (.tuple #[.int .i64 v, .iface 148 (.pointer (some ⟨N, 0, none⟩))]))) ∧ Below w.heap.size w w' := by
  rcases h : atoiAll s with v | _ | _
  · refine (Tryz.strconv_Atoi_ok ⟨⟨s⟩⟩ (Nat.le_trans hs (by omega)) v h w).mono ?_
    rintro e w' ⟨rfl, hw⟩
    refine ⟨Or.inl ⟨v, rfl, rfl⟩, ?_⟩
    rcases hw with rfl | ⟨t, rfl⟩
    · exact Below.refl _ _
    · exact bytesWorld_below _ _ _
  · obtain ⟨te, pe, hv⟩ := he.esyn
    refine (Any.strconv_Atoi_syntax Tryz.laysC172 ⟨⟨s⟩⟩ hs h _ w hv (Or.inr ⟨te, pe, rfl⟩)).mono ?_
    rintro e w' ⟨N, rfl, _, _, hb⟩
    exact ⟨Or.inr ⟨(fun v hv => by cases hv), _, N, rfl⟩, hb⟩
  · obtain ⟨te, pe, hv⟩ := he.erng
    refine (Any.strconv_Atoi_range Tryz.laysC172 ⟨⟨s⟩⟩ hs h _ w hv (Or.inr ⟨te, pe, rfl⟩)).mono ?_
    rintro e w' ⟨N, rfl, _, _, hb⟩
    exact ⟨Or.inr ⟨(fun v hv => by cases hv), _, N, rfl⟩, hb⟩

theorem lbeq (a b : List UInt8) : (a == b) = decide (a = b) := by
  by_cases h : a = b
  · subst h; simp
  · rw [decide_eq_false h]; exact beq_eq_false_iff_ne.2 h
theorem parseOn_any (s : List UInt8) (w : World) :
    Calls Tryz.prog 59 #[strV s] w fun e w' => e = .returned (.tuple #[.bool (decide (s = tOn)), .bool (decide (s = tOn) || decide (s = tOff))]) ∧ w = w' := by
  go_enter Tryz.func59, Tryz.ntmps59
  go_wp2
  · go_ret2
    exact ⟨by simp_all, rfl⟩
  · go_ret2
    exact ⟨by simp [lbeq], rfl⟩
set_option maxHeartbeats 1000000 in
theorem parseNumber_any (s : List UInt8) (hs : s.length ≤ 281474976710656) (w : World) (he : Env w) :
    Calls Tryz.prog 58 #[strV s] w fun e w' => (∃ n : Int, e = .returned (.tuple #[.int .i64 n, .bool (num s).isSome]) ∧ ∀ m : Nat, num s = some m → n = m) ∧ Below w.heap.size w w' := by
  have c0 := Lib.hid (atoi_any s hs w he)
  have E := Lib.hid he
  clear he
  rcases ha : atoiAll s with v | _ | _
  · obtain ⟨v0, v1⟩ := atoiAll_bounds ha
    have hn : num s = if 0 ≤ v ∧ v ≤ 1073741824 ∧ itoa v = s then some v.toNat else none := by unfold num; rw [ha]
    have HN := Lib.hid hn
    clear hn
    have HA := Lib.hid ha
    clear ha
    by_cases h0 : 0 ≤ v
    · by_cases h1 : v ≤ 1073741824
      · by_cases h2 : itoa v = s
        · go_enter Tryz.func58, Tryz.ntmps58
          go_wp2_with fail
          refine c0.out.mono ?_
          rintro e w1 ⟨h | h, hb⟩
          · obtain ⟨v', hv', rfl⟩ := h
            rw [HA.out] at hv'
            obtain rfl := NumEnd.ok.inj hv'
            have HB := Lib.hid hb
            have E1 := Lib.hid (E.out.below hb)
            clear hb hv'
            go_wp2_with fail
            refine (itoa_any v v0 v1 _ E1.out).mono ?_
            rintro e w2 ⟨rfl, hb2⟩
            rw [h2]
            have HB2 := Lib.hid (below_next HB.out hb2)
            clear hb2
            go_wp2_with fail
            go_ret2
            exact ⟨⟨v, by rw [HN.out, if_pos ⟨h0, h1, h2⟩]; simp, fun m hm => by rw [HN.out, if_pos ⟨h0, h1, h2⟩] at hm; have := Option.some.inj hm; omega⟩, HB2.out⟩
          · exact absurd HA.out (h.1 v)
        · go_enter Tryz.func58, Tryz.ntmps58
          go_wp2_with fail
          refine c0.out.mono ?_
          rintro e w1 ⟨h | h, hb⟩
          · obtain ⟨v', hv', rfl⟩ := h
            rw [HA.out] at hv'
            obtain rfl := NumEnd.ok.inj hv'
            have HB := Lib.hid hb
            have E1 := Lib.hid (E.out.below hb)
            clear hb hv'
            go_wp2_with fail
            refine (itoa_any v v0 v1 _ E1.out).mono ?_
            rintro e w2 ⟨rfl, hb2⟩
            have HB2 := Lib.hid (below_next HB.out hb2)
            clear hb2
            go_wp2_with fail
            go_ret2
            exact ⟨⟨v, by rw [HN.out, if_neg (fun h => h2 h.2.2)]; simp [h2], fun m hm => by rw [HN.out, if_neg (fun h => h2 h.2.2)] at hm; cases hm⟩, HB2.out⟩
          · exact absurd HA.out (h.1 v)
      · go_enter Tryz.func58, Tryz.ntmps58
        go_wp2_with fail
        refine c0.out.mono ?_
        rintro e w1 ⟨h | h, hb⟩
        · obtain ⟨v', hv', rfl⟩ := h
          rw [HA.out] at hv'
          obtain rfl := NumEnd.ok.inj hv'
          have HB := Lib.hid hb
          clear hb hv'
          go_wp2_with fail
          go_ret2
          exact ⟨⟨v, by rw [HN.out, if_neg (fun h => by obtain ⟨_, _, _⟩ := h; omega)]; simp, fun m hm => by rw [HN.out, if_neg (fun h => by obtain ⟨_, _, _⟩ := h; omega)] at hm; cases hm⟩, HB.out⟩
        · exact absurd HA.out (h.1 v)
    · go_enter Tryz.func58, Tryz.ntmps58
      go_wp2_with fail
      refine c0.out.mono ?_
      rintro e w1 ⟨h | h, hb⟩
      · obtain ⟨v', hv', rfl⟩ := h
        rw [HA.out] at hv'
        obtain rfl := NumEnd.ok.inj hv'
        have HB := Lib.hid hb
        clear hb hv'
        go_wp2_with fail
        go_ret2
        exact ⟨⟨v, by rw [HN.out, if_neg (fun h => by obtain ⟨_, _, _⟩ := h; omega)]; simp, fun m hm => by rw [HN.out, if_neg (fun h => by obtain ⟨_, _, _⟩ := h; omega)] at hm; cases hm⟩, HB.out⟩
      · exact absurd HA.out (h.1 v)
  · have hn : num s = none := by unfold num; rw [ha]
    have HN := Lib.hid hn
    have HA := Lib.hid ha
    clear hn ha
    go_enter Tryz.func58, Tryz.ntmps58
    go_wp2_with fail
    refine c0.out.mono ?_
    rintro e w1 ⟨h | h, hb⟩
    · obtain ⟨v', hv', rfl⟩ := h
      rw [HA.out] at hv'; cases hv'
    · obtain ⟨_, v, N, rfl⟩ := h
      have HB := Lib.hid hb
      clear hb
      go_wp2_with fail
      go_ret2
      exact ⟨⟨v, by rw [HN.out]; simp, fun m hm => by rw [HN.out] at hm; cases hm⟩, HB.out⟩
  · have hn : num s = none := by unfold num; rw [ha]
    have HN := Lib.hid hn
    have HA := Lib.hid ha
    clear hn ha
    go_enter Tryz.func58, Tryz.ntmps58
    go_wp2_with fail
    refine c0.out.mono ?_
    rintro e w1 ⟨h | h, hb⟩
    · obtain ⟨v', hv', rfl⟩ := h
      rw [HA.out] at hv'; cases hv'
    · obtain ⟨_, v, N, rfl⟩ := h
      have HB := Lib.hid hb
      clear hb
      go_wp2_with fail
      go_ret2
      exact ⟨⟨v, by rw [HN.out]; simp, fun m hm => by rw [HN.out] at hm; cases hm⟩, HB.out⟩
end Go.Proofs.YtlmdpaemhjcmbaaGreatDoor.Cd
