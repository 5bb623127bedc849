/- Contract of take: a word of a text, for a part of a form. -/
import Derived.Test.YtlmdpaemhjcmbaaGreatDoorDWb
namespace Go.Proofs.YtlmdpaemhjcmbaaGreatDoor.Cd
open Go.RowKit Go.Sort Go.Lib

/-- What take leaves: the command with the field set, if the word is one. -/
def Took (c : Cm) (p s : List UInt8) (b : Nat) (w : World) (e : Ending) (w' : World) : Prop :=
  e = .returned (.bool (tk p s).isSome) ∧ (∃ c' : Cm, CA w' b c'.cells 33 ∧ (∀ i, c'.x i < 256) ∧ ∀ f, tk p s = some f → c' = f c) ∧ Below b w w'
theorem lst_ne {a b : List UInt8} (h : a ≠ b) : (a == b) = false := beq_eq_false_iff_ne.2 h
set_option maxHeartbeats 1000000 in
theorem takeP (c : Cm) (s : List UInt8) (b : Nat) (w : World) (he : Env w) (hv : CA w b c.cells 33) (hl : s.length ≤ 281474976710656) (hx : ∀ i, c.x i < 256) :
    Calls Tryz.prog 48 #[.pointer (some ⟨b, 0, none⟩), strV [80], strV s] w (Took c [80] s b w) := by
  have c0 := Lib.hid (parseNumber_any s hl w he)
  have V := Lib.hid hv
  clear hv he
  go_enter Tryz.func48, Tryz.ntmps48
  go_wp2_with fail
  refine c0.out.mono ?_
  rintro e w1 ⟨⟨n, rfl, hn⟩, hb⟩
  have HN := Lib.hid hn
  have hc : CA w1 b c.cells 33 := V.out.below hb V.out.lt
  have k1 : w1.cell? ⟨b, 1, none⟩ = some (.int .i64 c.po) := hc.cell 1
  have k2 := hc.frozen
  have HC := Lib.hid hc
  have HB := Lib.hid (hb.mono (Nat.le_of_lt V.out.lt))
  clear hn hc hb V
  go_wp2_with fail
  go_ret
  refine ⟨by rw [tkP]; simp, ⟨{ c with po := n }, ?_, hx, fun f hf => ?_⟩, ?_⟩
  · exact HC.out.set 1 _
  · rw [tkP] at hf
    obtain ⟨m, hm, rfl⟩ := Option.map_eq_some_iff.1 hf
    rw [HN.out m hm]
  · exact HB.out.setCell (Nat.le_refl _) _
set_option maxHeartbeats 1000000 in
theorem takeN (c : Cm) (s : List UInt8) (b : Nat) (w : World) (he : Env w) (hv : CA w b c.cells 33) (hl : s.length ≤ 281474976710656) (hx : ∀ i, c.x i < 256) :
    Calls Tryz.prog 48 #[.pointer (some ⟨b, 0, none⟩), strV [78], strV s] w (Took c [78] s b w) := by
  have c0 := Lib.hid (parseNumber_any s hl w he)
  have V := Lib.hid hv
  clear hv he
  go_enter Tryz.func48, Tryz.ntmps48
  go_wp2_with fail
  refine c0.out.mono ?_
  rintro e w1 ⟨⟨n, rfl, hn⟩, hb⟩
  have HN := Lib.hid hn
  have hc : CA w1 b c.cells 33 := V.out.below hb V.out.lt
  have k1 : w1.cell? ⟨b, 2, none⟩ = some (.int .i64 c.nn) := hc.cell 2
  have k2 := hc.frozen
  have HC := Lib.hid hc
  have HB := Lib.hid (hb.mono (Nat.le_of_lt V.out.lt))
  clear hn hc hb V
  go_wp2_with fail
  go_ret
  refine ⟨by rw [tkN]; simp, ⟨{ c with nn := n }, ?_, hx, fun f hf => ?_⟩, ?_⟩
  · exact HC.out.set 2 _
  · rw [tkN] at hf
    obtain ⟨m, hm, rfl⟩ := Option.map_eq_some_iff.1 hf
    rw [HN.out m hm]
  · exact HB.out.setCell (Nat.le_refl _) _
set_option maxHeartbeats 1000000 in
theorem takeL (c : Cm) (s : List UInt8) (b : Nat) (w : World) (he : Env w) (hv : CA w b c.cells 33) (hx : ∀ i, c.x i < 256) :
    Calls Tryz.prog 48 #[.pointer (some ⟨b, 0, none⟩), strV [76], strV s] w (Took c [76] s b w) := by
  have c0 := Lib.hid (link_any s w he)
  have V := Lib.hid hv
  clear hv he
  go_enter Tryz.func48, Tryz.ntmps48
  go_wp2_with fail
  refine c0.out.mono ?_
  rintro e w1 ⟨⟨n, rfl, hn⟩, rfl⟩
  have HN := Lib.hid hn
  have hc : CA w b c.cells 33 := V.out
  have k1 : w.cell? ⟨b, 2, none⟩ = some (.int .i64 c.nn) := hc.cell 2
  have k2 := hc.frozen
  have HC := Lib.hid hc
  have HB := Lib.hid (Below.refl b w)
  clear hn hc V
  go_wp2_with fail
  go_ret
  refine ⟨by rw [tkL]; simp, ⟨{ c with nn := n }, ?_, hx, fun f hf => ?_⟩, ?_⟩
  · exact HC.out.set 2 _
  · rw [tkL] at hf
    obtain ⟨m, hm, rfl⟩ := Option.map_eq_some_iff.1 hf
    rw [HN.out m hm]
  · exact HB.out.setCell (Nat.le_refl _) _
set_option maxHeartbeats 1000000 in
theorem takeO (c : Cm) (s : List UInt8) (b : Nat) (w : World) (hv : CA w b c.cells 33) (hx : ∀ i, c.x i < 256) :
    Calls Tryz.prog 48 #[.pointer (some ⟨b, 0, none⟩), strV [79], strV s] w (Took c [79] s b w) := by
  have c0 := Lib.hid (parseOn_any s w)
  have HN : Hid ((tk [79] s).isSome = (decide (s = tOn) || decide (s = tOff)) ∧ ∀ f, tk [79] s = some f → f c = { c with on := decide (s = tOn) }) := Lib.hid (by
    rw [tkO]
    by_cases h1 : s = tOn
    · simp [h1]
    · by_cases h2 : s = tOff
      · subst h2; simp
      · simp [h1, h2])
  generalize decide (s = tOn) = q at *
  generalize (q || decide (s = tOff)) = r at *
  have k1 : w.cell? ⟨b, 3, none⟩ = some (.bool c.on) := hv.cell 3
  have k2 := hv.frozen
  have HC := Lib.hid hv
  clear hv
  go_enter Tryz.func48, Tryz.ntmps48
  go_wp2_with fail
  refine c0.out.mono ?_
  rintro e w1 ⟨rfl, rfl⟩
  clear c0
  go_wp2_with fail
  go_ret
  refine ⟨by rw [HN.out.1]; rfl, ⟨{ c with on := q }, ?_, hx, fun f hf => (HN.out.2 f hf).symm⟩, ?_⟩
  · exact HC.out.set 3 _
  · exact (Below.refl b w).setCell (Nat.le_refl _) _
set_option maxHeartbeats 1000000 in
theorem takeM (c : Cm) (s : List UInt8) (b : Nat) (w : World) (hv : CA w b c.cells 33) :
    Calls Tryz.prog 48 #[.pointer (some ⟨b, 0, none⟩), strV [77], strV s] w (Took c [77] s b w) := by
  have c0 := Lib.hid (parseMac_any s w)
  have V := Lib.hid hv
  clear hv
  go_enter Tryz.func48, Tryz.ntmps48
  go_wp2_with fail
  refine c0.out.mono ?_
  rintro e w1 ⟨⟨x, rfl, hx, hn⟩, hb⟩
  have HN := Lib.hid hn
  have hc : CA w1 b c.cells 33 := V.out.below hb V.out.lt
  have HC := Lib.hid hc
  have HB := Lib.hid (hb.mono (Nat.le_of_lt V.out.lt))
  clear hn hc hb V
  go_wp2_with (with_reducible refine stopS 23 (.tmp 61) (.tmp 58) rfl ?_)
  refine Lib.hid ?_
  refine wpList_store_whole s24 rfl _ _ rfl rfl rfl HC.out (xs := mc x) (mc_one _) rfl (show 4 + 6 ≤ c.cells.size from Nat.le_refl 10) ?_
  intro w5 hv5 hb5 _ _
  have HB5 := Lib.hid (hb5 b w (Nat.le_refl _) HB.out)
  have HV5 := Lib.hid hv5
  clear hv5 hb5 HC HB
  go_wp2_with fail
  go_ret
  refine ⟨rfl, ⟨{ c with x := trim x }, HV5.out, trim_lt hx, fun f hf => (HN.out f c hf).symm⟩, HB5.out⟩
set_option maxHeartbeats 1000000 in
theorem takeW (c : Cm) (p s : List UInt8) (h1 : p ≠ [80]) (h2 : p ≠ [78]) (h3 : p ≠ [79]) (h4 : p ≠ [76]) (h5 : p ≠ [77]) (b : Nat) (w : World) (hv : CA w b c.cells 33) (hx : ∀ i, c.x i < 256) :
    Calls Tryz.prog 48 #[.pointer (some ⟨b, 0, none⟩), strV p, strV s] w (Took c p s b w) := by
  have k1 := lst_ne h1
  have k2 := lst_ne h2
  have k3 := lst_ne h3
  have k4 := lst_ne h4
  have k5 := lst_ne h5
  have HN : Hid (tk p s = if s = p then some id else none) := Lib.hid (by unfold tk; rw [if_neg h1, if_neg h2, if_neg h3, if_neg h4, if_neg h5])
  have HC := Lib.hid hv
  clear h1 h2 h3 h4 h5 hv
  by_cases hs : s = p
  · subst hs
    go_enter Tryz.func48, Tryz.ntmps48
    go_wp2_with fail
    go_ret
    exact ⟨by rw [HN.out]; simp, ⟨c, HC.out, hx, fun f hf => by rw [HN.out, if_pos trivial] at hf; rw [← Option.some.inj hf]; rfl⟩, Below.refl b w⟩
  · have k6 := lst_ne hs
    have HS := Lib.hid hs
    clear hs
    go_enter Tryz.func48, Tryz.ntmps48
    go_wp2_with fail
    go_ret
    exact ⟨by rw [HN.out, if_neg HS.out]; first | rfl | simp [k6], ⟨c, HC.out, hx, fun f hf => by rw [HN.out, if_neg HS.out] at hf; cases hf⟩, Below.refl b w⟩
theorem take_any (c : Cm) (p s : List UInt8) (b : Nat) (w : World) (he : Env w) (hv : CA w b c.cells 33) (hl : s.length ≤ 281474976710656) (hx : ∀ i, c.x i < 256) :
    Calls Tryz.prog 48 #[.pointer (some ⟨b, 0, none⟩), strV p, strV s] w (Took c p s b w) := by
  by_cases h1 : p = [80]
  · subst h1; exact takeP c s b w he hv hl hx
  by_cases h2 : p = [78]
  · subst h2; exact takeN c s b w he hv hl hx
  by_cases h3 : p = [79]
  · subst h3; exact takeO c s b w hv hx
  by_cases h4 : p = [76]
  · subst h4; exact takeL c s b w he hv hx
  by_cases h5 : p = [77]
  · subst h5; exact takeM c s b w hv
  exact takeW c p s h1 h2 h3 h4 h5 b w hv hx
end Go.Proofs.YtlmdpaemhjcmbaaGreatDoor.Cd
