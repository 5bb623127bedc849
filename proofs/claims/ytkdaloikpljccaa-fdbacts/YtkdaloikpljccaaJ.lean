/- Contract of Fix. -/
import Derived.Test.YtkdaloikpljccaaI
namespace Go.Proofs.Ytkdaloikpljccaa
open Go.RowKit Go.Sort Go.Maps
variable {w w' : World} {tb b : Nat} {most : Int} {E : Nat → Option Ent} {l : List Ent}
def fixC (l : List Ent) (most : Int) (n : Nat) : Int := if resB (ofN n) then 1 else if room l most n then 0 else 7
theorem fix_any (h : Tab w tb b most E l) {n : Nat} (hn : n < 281474976710656) (ports : Int) :
    Calls Try.prog 12 #[.pointer (some ⟨tb, 0, none⟩), macN n, .int .u32 ports] w fun e w' => e = .returned (.int .i64 (fixC l most n)) ∧ (∃ E', Tab w' tb b most E' (if fixC l most n = 0 then putE ⟨n, 0, ports, 0, true⟩ l else l) ∧ Grew w E E') ∧ Off (fun k => k = b) w w' := by
  have hb := box_below w (macO (ofN n) 24)
  have h1 := h.below hb
  have ha := box_at w (ofN n) 24
  have HN := Lib.hid hn
  clear hn
  have m0 := ha 0 (by omega); have m1 := ha 1 (by omega); have m2 := ha 2 (by omega); have m3 := ha 3 (by omega); have m4 := ha 4 (by omega); have m5 := ha 5 (by omega)
  have HA := Lib.hid ha
  have HB := Lib.hid hb
  have H1 := Lib.hid h1
  have HT := Lib.hid h
  clear h ha hb h1
  cases hg : resB (ofN n)
  · cases hr : room l most n
    · have ho : fixC l most n = 7 := by simp [fixC, hg, hr]
      rw [ho, if_neg (by decide)]
      unfold room at hr
      go_enter Try.func12, Try.ntmps12
      go_wp2_with fail
      refine (reserved_any _ (ofN_lt n) _).mono ?_; rintro e w1 ⟨rfl, hb1⟩
      rw [hg]
      obtain ⟨c0, c1, c2, c3, c4, c5⟩ := (HA.out.below hb1 HA.out.lt).n
      have B1 := Lib.hid hb1
      clear hb1
      go_wp2_with fail
      refine (hasRoom_any (H1.out.below B1.out) HN.out).mono ?_; rintro e w3 ⟨rfl, hb3⟩
      rw [hr]
      have B3 := Lib.hid hb3
      clear hb3
      go_wp2
      go_ret
      have hall := below_next (below_next HB.out B1.out) B3.out
      exact ⟨rfl, ⟨E, HT.out.below hall, Grew.refl _ _⟩, Below.off hall _⟩
    · have ho : fixC l most n = 0 := by simp [fixC, hg, hr]
      rw [ho, if_pos rfl]
      have hr' := hr
      unfold room at hr'
      have HR := Lib.hid hr
      clear hr
      go_enter Try.func12, Try.ntmps12
      go_wp2_with fail
      refine (reserved_any _ (ofN_lt n) _).mono ?_; rintro e w1 ⟨rfl, hb1⟩
      rw [hg]
      obtain ⟨c0, c1, c2, c3, c4, c5⟩ := (HA.out.below hb1 HA.out.lt).n
      have B1 := Lib.hid hb1
      clear hb1
      go_wp2_with fail
      refine (hasRoom_any (H1.out.below B1.out) HN.out).mono ?_; rintro e w3 ⟨rfl, hb3⟩
      rw [hr']
      have a3 := (HA.out.below B1.out HA.out.lt).below hb3 (HA.out.below B1.out HA.out.lt).lt
      have ht3 := (H1.out.below B1.out).below hb3
      obtain ⟨W2, hrun, ht4, ho4⟩ := ht3.put (e := ⟨n, 0, ports, 0, true⟩) HN.out (ht3.room HR.out) (w1 := (w3.alloc (.cells (entC ⟨n, 0, ports, 0, true⟩) 39)).drew) rfl ⟨rfl, rfl, rfl⟩
      have r1 := ht3.row.cell 1
      simp at r1
      have HS0 := Lib.hid (show SL tb w.heap.size b n w3.drew from ⟨r1, a3.n⟩)
      have HS2 := Lib.hid (show SL tb w.heap.size b n W2 from ⟨by have := ht4.row.cell 1; simpa using this, (a3.other ho4 (ht3.ne_map a3)).n⟩)
      have hall := below_next (below_next HB.out B1.out) hb3
      have HALL := Lib.hid (show Off (fun k => k = b) w W2 from (Below.off hall _).trans ho4 (fun _ _ h => h))
      have HT4 := Lib.hid (show ∃ E', Tab W2 tb b most E' (putE ⟨n, 0, ports, 0, true⟩ l) ∧ Grew w E E' from ⟨_, ht4, Grew.upd hall.size _⟩)
      simp only [macN, macV, entC] at hrun
      clear ht3 ht4 ho4 hall a3 hb3 hr' c0 c1 c2 c3 c4 c5 m0 m1 m2 m3 m4 m5
      go_wp2_with fail
      go_region_held (SL tb w.heap.size b n) (first | with_reducible exact HS0.out | with_reducible exact HS2.out | exact SL.allocd HS0.out _ | with_reducible assumption) (fail)
      go_wp2
      go_ret
      exact ⟨rfl, HT4.out, HALL.out⟩
  · have ho : fixC l most n = 1 := by simp [fixC, hg]
    rw [ho, if_neg (by decide)]
    go_enter Try.func12, Try.ntmps12
    go_wp2_with fail
    refine (reserved_any _ (ofN_lt n) _).mono ?_; rintro e w1 ⟨rfl, hb1⟩
    rw [hg]
    have B1 := Lib.hid hb1
    clear hb1
    go_wp2
    go_ret
    have hall := below_next HB.out B1.out
    exact ⟨rfl, ⟨E, HT.out.below hall, Grew.refl _ _⟩, Below.off hall _⟩
theorem fix_nil (n : Nat) (ports : Int) (w : World) :
    Calls Try.prog 12 #[.pointer none, macN n, .int .u32 ports] w fun e w' => e = .returned (.int .i64 1) ∧ Below w.heap.size w w' := by
  have HB := Lib.hid (box_below w (macO (ofN n) 24))
  go_enter Try.func12, Try.ntmps12
  go_wp2
  go_ret
  exact ⟨rfl, HB.out⟩
end Go.Proofs.Ytkdaloikpljccaa
