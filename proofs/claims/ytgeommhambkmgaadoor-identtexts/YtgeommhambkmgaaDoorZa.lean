/- IdentTexts' whole call. Conditions: the library's table of bits' places, its two error variables. -/
import Derived.Test.YtgeommhambkmgaaDoorZ
namespace Go.Proofs.YtgeommhambkmgaaDoor
open Go.RowKit Go.Sort

theorem idOk_dashAt {l a r : List UInt8} (h : idOk l a r) : dashAt l a.length := by
  obtain ⟨h1, h2, h3, h4, h5⟩ := idOk_at h
  refine ⟨h1, h3, h4, fun j _ hj e => ?_⟩
  have := h5 j hj
  rw [e, dval45] at this
  cases this
theorem refParse5_good (l a r : List UInt8) (h : idOk l a r) (w : World) :
    Calls Tryd.prog 18 #[strV l] w fun e w' => e = .returned (.tuple #[.int .u64 (idN (hval a 0) (macOf ⟨⟨r⟩⟩)), .bool true]) ∧ Below w.heap.size w w' :=
  (refParse5_any l w).mono fun e w' hh => ⟨by
    rcases hh.1 with ⟨a', r', h', he⟩ | ⟨hn, _⟩
    · have e1 := idOk_parts h (idOk_dashAt h)
      have e2 := idOk_parts h' (idOk_dashAt h)
      rw [he, e2.1, e2.2, ← e1.1, ← e1.2]
    · exact absurd ⟨a, r, h⟩ hn, hh.2⟩
theorem refParse5_bad (l : List UInt8) (h : ¬ ∃ a r, idOk l a r) (w : World) :
    Calls Tryd.prog 18 #[strV l] w fun e w' => e = .returned (.tuple #[.int .u64 0, .bool false]) ∧ Below w.heap.size w w' :=
  (refParse5_any l w).mono fun e w' hh => ⟨by
    rcases hh.1 with ⟨a', r', h', he⟩ | ⟨_, he⟩
    · exact absurd ⟨a', r', h'⟩ h
    · exact he, hh.2⟩
set_option maxRecDepth 10000 in
theorem texts5_long (l : List UInt8) (h : 100 < l.length) (w : World) (he : Env w) : Calls Tryd.prog 5 #[strV l] w fun e w' => e = .returned (.bool true) ∧ Below w.heap.size w w' := by
  have h100 : decide ((100 : Int) < l.length) = true := by simp; omega
  go_enter Tryd.func5, Tryd.ntmps5
  go_wp2_with fail
  refine (lives_ok _ he).mono ?_
  rintro e w1 ⟨rfl, hb⟩
  have HB := Lib.hid hb
  have h1 := he.below hb
  clear hb
  go_wp2_with fail
  refine (lives_ok _ h1).mono ?_
  rintro e w2 ⟨rfl, hb⟩
  have HB2 := Lib.hid (below_next HB.out hb)
  clear hb
  go_wp2_with fail
  go_ret
  exact ⟨rfl, HB2.out⟩
set_option maxRecDepth 10000 in
theorem texts5_good (l a r : List UInt8) (h : ¬ 100 < l.length) (ho : idOk l a r) (w : World) (he : Env w) : Calls Tryd.prog 5 #[strV l] w fun e w' => e = .returned (.bool true) ∧ Below w.heap.size w w' := by
  have h100 : decide ((100 : Int) < l.length) = false := by simp; omega
  have c1 := parse5_good l a r (by omega) ho
  have c2 := refParse5_good l a r ho
  have c3 := text5_ok (idN (hval a 0) (macOf ⟨⟨r⟩⟩)) (idN_lt (hval_small ho.2.2.1) (macOf_lt _))
  rw [idT_id ho.2.2.2, hexl_hval a ho.2.1, ← ho.1] at c3
  generalize idN (hval a 0) (macOf ⟨⟨r⟩⟩) = N at *
  clear ho h
  go_enter Tryd.func5, Tryd.ntmps5
  go_wp2_with fail
  refine (lives_ok _ he).mono ?_
  rintro e w1 ⟨rfl, hb⟩
  have HB := Lib.hid hb
  have h1 := he.below hb
  clear hb he
  go_wp2_with fail
  refine (c1 _ h1).mono ?_
  rintro e w2 ⟨rfl, hb⟩
  have HB2 := Lib.hid (below_next HB.out hb)
  have h2 := h1.below hb
  clear hb c1 h1 HB
  go_wp2_with fail
  refine (c2 _).mono ?_
  rintro e w3 ⟨rfl, hb⟩
  have HB3 := Lib.hid (below_next HB2.out hb)
  have h3 := h2.below hb
  clear hb c2 h2 HB2
  go_wp2_with fail
  refine (c3 _ h3).mono ?_
  rintro e w4 ⟨rfl, hb⟩
  have HB4 := Lib.hid (below_next HB3.out hb)
  clear hb c3 h3 HB3
  go_wp2_with fail
  go_ret
  exact ⟨ret_bool (by simp), HB4.out⟩
set_option maxRecDepth 10000 in
theorem texts5_bad (l : List UInt8) (h : ¬ 100 < l.length) (ho : ¬ ∃ a r, idOk l a r) (w : World) (he : Env w) (hE : Errs w) : Calls Tryd.prog 5 #[strV l] w fun e w' => e = .returned (.bool true) ∧ Below w.heap.size w w' := by
  have h100 : decide ((100 : Int) < l.length) = false := by simp; omega
  have c1 := parse5_bad l (by omega) ho
  have c2 := refParse5_bad l ho
  clear ho h
  go_enter Tryd.func5, Tryd.ntmps5
  go_wp2_with fail
  refine (lives_ok _ he).mono ?_
  rintro e w1 ⟨rfl, hb⟩
  have HB := Lib.hid hb
  have h1 := he.below hb
  have hE1 := hE.below hb
  clear hb he hE
  go_wp2_with fail
  refine (c1 _ h1 hE1).mono ?_
  rintro e w2 ⟨rfl, hb⟩
  have HB2 := Lib.hid (below_next HB.out hb)
  clear hb c1 h1 HB
  go_wp2_with fail
  refine (c2 _).mono ?_
  rintro e w3 ⟨rfl, hb⟩
  have HB3 := Lib.hid (below_next HB2.out hb)
  clear hb c2 HB2
  go_wp2_with fail
  go_ret
  exact ⟨rfl, HB3.out⟩
theorem texts5_any (l : List UInt8) (w : World) (he : Env w) (hE : Errs w) : Calls Tryd.prog 5 #[strV l] w fun e w' => e = .returned (.bool true) ∧ Below w.heap.size w w' := by
  by_cases h : 100 < l.length
  · exact texts5_long l h w he
  · by_cases ho : ∃ a r, idOk l a r
    · obtain ⟨a, r, ho⟩ := ho
      exact texts5_good l a r h ho w he
    · exact texts5_bad l h ho w he hE
end Go.Proofs.YtgeommhambkmgaaDoor
