/- What Print prints, and what it does to the usual setting. -/
import Derived.Test.YtlmdpaemhjcmbaaGreatDoorNd
namespace Go.Proofs.YtlmdpaemhjcmbaaGreatDoor
open Go.RowKit Go.Sort

/-- The commands of a bridge. -/
def hdr (c : Cf) : Nat → Cd.Cm
  | 0 => ⟨0, 0, c.pr, false, fun _ => 0⟩
  | 1 => ⟨1, 0, c.m, false, fun _ => 0⟩
  | 2 => ⟨2, 0, c.h, false, fun _ => 0⟩
  | 3 => ⟨3, 0, c.d, false, fun _ => 0⟩
  | 4 => ⟨4, 0, c.ho, false, fun _ => 0⟩
  | 5 => ⟨5, 0, 0, c.rs, fun _ => 0⟩
  | _ => ⟨6, 0, c.ag, false, fun _ => 0⟩
/-- The commands of a port. -/
def ptc (k : Int) (p : Pc) : Nat → Cd.Cm
  | 0 => ⟨7, k, p.pr, false, fun _ => 0⟩
  | 1 => ⟨8, k, p.co, false, fun _ => 0⟩
  | 2 => ⟨9, k, 0, p.ed, fun _ => 0⟩
  | 3 => ⟨10, k, 0, p.au, fun _ => 0⟩
  | _ => ⟨11, k, p.pt, false, fun _ => 0⟩
/-- All of them. -/
def pl (c : Cf) (P : Nat → Pc) (i : Nat) : Cd.Cm := if i < 7 then hdr c i else ptc (((i - 7) / 5 : Nat) + 1) (P ((i - 7) / 5)) ((i - 7) % 5)
theorem pl_port (c : Cf) (P : Nat → Pc) (q j : Nat) (hj : j < 5) : pl c P (7 + 5 * q + j) = ptc (q + 1) (P q) j := by
  unfold pl
  rw [if_neg (by omega), show (7 + 5 * q + j - 7) / 5 = q by omega, show (7 + 5 * q + j - 7) % 5 = j by omega]
/-- What a setting that may be has. -/
structure Okc (c : Cf) (P : Nat → Pc) (n : Nat) : Prop where
  n8 : n ≤ 8
  pr : 0 ≤ c.pr ∧ c.pr ≤ 61440
  a : c.a = 0
  m : 6 ≤ c.m ∧ c.m ≤ 40
  h : 1 ≤ c.h ∧ c.h ≤ 2
  d : 4 ≤ c.d ∧ c.d ≤ 30
  ho : 1 ≤ c.ho ∧ c.ho ≤ 10
  ag : 10 ≤ c.ag ∧ c.ag ≤ 1000000
  p : ∀ i, i < n → (0 ≤ (P i).pr ∧ (P i).pr ≤ 240) ∧ (P i).co ≤ 200000000 ∧ 0 ≤ (P i).pt ∧ (P i).pt ≤ 2
theorem okc_of {c : Cf} {P : Nat → Pc} {n : Nat} (h : cfgE c P n = 0) : Okc c P n := by
  unfold cfgE at h
  cases h1 : stB c.pr 4096 61440
  · rw [h1] at h; simp at h
  cases h2 : inR c.a c.m c.h c.d
  · rw [h1, h2] at h; simp at h
  cases h3 : isC c.m c.h c.d
  · rw [h1, h2, h3] at h; simp at h
  cases h4 : rgC c n
  · rw [h1, h2, h3, h4] at h; simp at h
  rw [h1, h2, h3, h4] at h
  simp only [if_true] at h
  obtain ⟨ha, hm, hh, hd⟩ := inR_true h2
  have hp : ∀ i, i < n → badP (P i) = false := fun i hi => by
    cases hb : badP (P i)
    · rfl
    · rw [errQ_bad hi hb] at h; exact absurd h (by decide)
  unfold stB at h1
  unfold rgC at h4
  simp at h1 h4
  refine ⟨by omega, by omega, ha, hm, hh, hd, by omega, by omega, fun i hi => ?_⟩
  have := hp i hi
  unfold badP stB at this
  simp at this
  omega
theorem rt_mk {wh po nn : Int} {on : Bool} (h0 : 0 ≤ wh) (h1 : wh < 15) (hp : 112 ∉ Cd.fm wh.toNat → po = 0) (hn : 110 ∉ Cd.fm wh.toNat → 108 ∉ Cd.fm wh.toNat → nn = 0) (ho : 111 ∉ Cd.fm wh.toNat → on = false)
    (p0 : 0 ≤ po ∧ po ≤ 1073741824) (n0 : 0 ≤ nn ∧ nn ≤ 1073741824) (hl : 108 ∈ Cd.fm wh.toNat → nn ≤ 2) : Cd.Rt ⟨wh, po, nn, on, fun _ => 0⟩ :=
  ⟨h0, h1, fun _ => (show (0 : Nat) < 256 by omega), fun _ _ => rfl, hp, hn, ho, fun _ _ => rfl, p0.1, p0.2, n0.1, n0.2, hl⟩
theorem hdr_rt {c : Cf} {P : Nat → Pc} {n : Nat} (h : Okc c P n) (i : Nat) : Cd.Rt (hdr c i) := by
  obtain ⟨_, h1, _, h2, h3, h4, h5, h6, _⟩ := h
  match i with
  | 0 => exact rt_mk (by decide) (by decide) (fun _ => rfl) (fun h => absurd (by decide) h) (fun _ => rfl) (by decide) (by omega) (fun h => absurd h (by decide))
  | 1 => exact rt_mk (by decide) (by decide) (fun _ => rfl) (fun h => absurd (by decide) h) (fun _ => rfl) (by decide) (by omega) (fun h => absurd h (by decide))
  | 2 => exact rt_mk (by decide) (by decide) (fun _ => rfl) (fun h => absurd (by decide) h) (fun _ => rfl) (by decide) (by omega) (fun h => absurd h (by decide))
  | 3 => exact rt_mk (by decide) (by decide) (fun _ => rfl) (fun h => absurd (by decide) h) (fun _ => rfl) (by decide) (by omega) (fun h => absurd h (by decide))
  | 4 => exact rt_mk (by decide) (by decide) (fun _ => rfl) (fun h => absurd (by decide) h) (fun _ => rfl) (by decide) (by omega) (fun h => absurd h (by decide))
  | 5 => exact rt_mk (by decide) (by decide) (fun _ => rfl) (fun _ _ => rfl) (fun h => absurd (by decide) h) (by decide) (by decide) (fun h => absurd h (by decide))
  | _ + 6 => exact rt_mk (by decide) (by decide) (fun _ => rfl) (fun h => absurd (by decide) h) (fun _ => rfl) (by decide) (by omega) (fun h => absurd h (by decide))
theorem ptc_rt {p : Pc} {k : Int} (hk : 0 ≤ k ∧ k ≤ 1073741824) (h : (0 ≤ p.pr ∧ p.pr ≤ 240) ∧ p.co ≤ 200000000 ∧ 0 ≤ p.pt ∧ p.pt ≤ 2) (i : Nat) : Cd.Rt (ptc k p i) := by
  obtain ⟨h1, h2, h3, h4⟩ := h
  match i with
  | 0 => exact rt_mk (by decide) (by decide) (fun h => absurd (by decide) h) (fun h => absurd (by decide) h) (fun _ => rfl) hk (by omega) (fun h => absurd h (by decide))
  | 1 => exact rt_mk (by decide) (by decide) (fun h => absurd (by decide) h) (fun h => absurd (by decide) h) (fun _ => rfl) hk (by omega) (fun h => absurd h (by decide))
  | 2 => exact rt_mk (by decide) (by decide) (fun h => absurd (by decide) h) (fun _ _ => rfl) (fun h => absurd (by decide) h) hk (by decide) (fun h => absurd h (by decide))
  | 3 => exact rt_mk (by decide) (by decide) (fun h => absurd (by decide) h) (fun _ _ => rfl) (fun h => absurd (by decide) h) hk (by decide) (fun h => absurd h (by decide))
  | _ + 4 => exact rt_mk (by decide) (by decide) (fun h => absurd (by decide) h) (fun _ h => absurd (by decide) h) (fun _ => rfl) hk (by omega) (fun _ => h4)
theorem pl_rt {c : Cf} {P : Nat → Pc} {n : Nat} (h : Okc c P n) (i : Nat) (hi : i < 7 + 5 * n) : Cd.Rt (pl c P i) := by
  unfold pl
  split
  · exact hdr_rt h i
  · have := h.n8
    exact ptc_rt (by omega) (h.p _ (by omega)) _
/-- The kind of each. -/
def plW (i : Nat) : Int := if 7 ≤ i then 7 + ((i - 7) % 5 : Nat) else i
theorem pl_wh (c : Cf) (P : Nat → Pc) (i : Nat) : (pl c P i).wh = plW i := by
  unfold pl plW
  by_cases h : i < 7
  · rw [if_pos h, if_neg (by omega)]
    match i, h with
    | 0, _ => rfl
    | 1, _ => rfl
    | 2, _ => rfl
    | 3, _ => rfl
    | 4, _ => rfl
    | 5, _ => rfl
    | 6, _ => rfl
  · rw [if_neg h, if_pos (by omega)]
    have h5 : (i - 7) % 5 < 5 := Nat.mod_lt _ (by omega)
    generalize (i - 7) % 5 = j at *
    match j, h5 with
    | 0, _ => rfl
    | 1, _ => rfl
    | 2, _ => rfl
    | 3, _ => rfl
    | 4, _ => rfl
theorem pl_po (c : Cf) (P : Nat → Pc) (i : Nat) (h : 7 ≤ i) : (pl c P i).po = 1 + ((i - 7) / 5 : Nat) := by
  unfold pl
  rw [if_neg (by omega)]
  generalize (i - 7) / 5 = q
  have e : ∀ j, (ptc ((q : Nat) + 1) (P q) j).po = (q : Int) + 1 := fun j => by
    unfold ptc; split <;> rfl
  rw [e]; omega
/-- One command of a port. -/
theorem run_port {n : Nat} {L : Nat → Cd.Cm} {c : Cf} {P : Nat → Pc} {k q : Nat} (he : runE n L k = 0) (h7 : 7 ≤ (L k).wh) (h11 : (L k).wh ≤ 11) (hq : (L k).po = (q : Int) + 1) (hn : q < n) :
    runE n L (k + 1) = 0 ∧ runC n L c (k + 1) = runC n L c k ∧ runP n L P (k + 1) = fun i => if i = q then stP (L k) (runP n L P k q) else runP n L P k i := by
  have hs : stE n (L k) = 0 := by unfold stE; rw [if_neg (by omega), if_pos h11, if_pos (by omega)]
  refine ⟨by rw [runE, if_pos he, hs], by rw [runC, if_pos ⟨he, hs⟩, stC_hi _ _ h7], by rw [runP, if_pos ⟨he, hs⟩, stQ_at _ _ q h7 h11 hq]⟩
/-- One of a bridge. -/
theorem run_bridge {n : Nat} {L : Nat → Cd.Cm} {c : Cf} {P : Nat → Pc} {k : Nat} (he : runE n L k = 0) (h6 : (L k).wh ≤ 6) :
    runE n L (k + 1) = 0 ∧ runC n L c (k + 1) = stC (L k) (runC n L c k) ∧ runP n L P (k + 1) = runP n L P k := by
  have hs : stE n (L k) = 0 := by unfold stE; rw [if_pos h6]
  refine ⟨by rw [runE, if_pos he, hs], by rw [runC, if_pos ⟨he, hs⟩], by rw [runP, if_pos ⟨he, hs⟩, stQ_lo _ _ h6]⟩
theorem run_hdr {c : Cf} {P : Nat → Pc} {n : Nat} (h : Okc c P n) (Q : Nat → Pc) :
    runE n (pl c P) 7 = 0 ∧ runC n (pl c P) (usualC c.x) 7 = c ∧ runP n (pl c P) Q 7 = Q := by
  have w : ∀ k, k < 7 → (pl c P k).wh ≤ 6 := fun k hk => by rw [pl_wh]; unfold plW; rw [if_neg (by omega)]; omega
  obtain ⟨e1, c1, p1⟩ := run_bridge (c := usualC c.x) (P := Q) (k := 0) (L := pl c P) (n := n) rfl (w 0 (by omega))
  obtain ⟨e2, c2, p2⟩ := run_bridge (c := usualC c.x) (P := Q) e1 (w 1 (by omega))
  obtain ⟨e3, c3, p3⟩ := run_bridge (c := usualC c.x) (P := Q) e2 (w 2 (by omega))
  obtain ⟨e4, c4, p4⟩ := run_bridge (c := usualC c.x) (P := Q) e3 (w 3 (by omega))
  obtain ⟨e5, c5, p5⟩ := run_bridge (c := usualC c.x) (P := Q) e4 (w 4 (by omega))
  obtain ⟨e6, c6, p6⟩ := run_bridge (c := usualC c.x) (P := Q) e5 (w 5 (by omega))
  obtain ⟨e7, c7, p7⟩ := run_bridge (c := usualC c.x) (P := Q) e6 (w 6 (by omega))
  refine ⟨e7, ?_, by rw [p7, p6, p5, p4, p3, p2, p1]; rfl⟩
  rw [c7, c6, c5, c4, c3, c2, c1]
  have ha := h.a
  obtain ⟨x, pr, a, m, hh, d, ho, rs, ag⟩ := c
  simp only at ha
  subst ha
  rfl
theorem run_all {c : Cf} {P : Nat → Pc} {n : Nat} (h : Okc c P n) (Q : Nat → Pc) : ∀ q, q ≤ n →
    runE n (pl c P) (7 + 5 * q) = 0 ∧ runC n (pl c P) (usualC c.x) (7 + 5 * q) = c ∧ runP n (pl c P) Q (7 + 5 * q) = fun i => if i < q then P i else Q i
  | 0, _ => by
    obtain ⟨a, b, d⟩ := run_hdr h Q
    exact ⟨a, b, by rw [d]; funext i; simp⟩
  | q + 1, hq => by
    obtain ⟨e0, c0, p0⟩ := run_all h Q q (by omega)
    have L : ∀ j, j < 5 → pl c P (7 + 5 * q + j) = ptc ((q : Int) + 1) (P q) j := fun j hj => pl_port c P q j hj
    have S : ∀ j, j < 5 → runE n (pl c P) (7 + 5 * q + j) = 0 → runE n (pl c P) (7 + 5 * q + j + 1) = 0 ∧ runC n (pl c P) (usualC c.x) (7 + 5 * q + j + 1) = runC n (pl c P) (usualC c.x) (7 + 5 * q + j) ∧ runP n (pl c P) Q (7 + 5 * q + j + 1) = fun i => if i = q then stP (ptc ((q : Int) + 1) (P q) j) (runP n (pl c P) Q (7 + 5 * q + j) q) else runP n (pl c P) Q (7 + 5 * q + j) i := fun j hj he => by
      have hw := pl_wh c P (7 + 5 * q + j)
      unfold plW at hw
      rw [if_pos (by omega)] at hw
      have hp := pl_po c P (7 + 5 * q + j) (by omega)
      have := run_port (c := usualC c.x) (P := Q) (q := q) he (by omega) (by omega) (by omega) (by omega)
      rw [L j hj] at this
      exact this
    obtain ⟨e1, c1, p1⟩ := S 0 (by omega) e0
    obtain ⟨e2, c2, p2⟩ := S 1 (by omega) e1
    obtain ⟨e3, c3, p3⟩ := S 2 (by omega) e2
    obtain ⟨e4, c4, p4⟩ := S 3 (by omega) e3
    obtain ⟨e5, c5, p5⟩ := S 4 (by omega) e4
    refine ⟨e5, c5.trans (c4.trans (c3.trans (c2.trans (c1.trans c0)))), ?_⟩
    show runP n (pl c P) Q (7 + 5 * q + 4 + 1) = _
    rw [p5, p4, p3, p2, p1]
    simp only [Nat.add_zero]
    rw [p0]
    funext i
    by_cases e : i = q
    · subst e
      simp only [if_true]
      rw [if_neg (Nat.lt_irrefl _), if_pos (Nat.lt_succ_self _)]
      generalize P i = p
      generalize Q i = r
      obtain ⟨a, b, d, f, g⟩ := p
      obtain ⟨a', b', d', f', g'⟩ := r
      rfl
    · simp only [if_neg e]
      by_cases g : i < q
      · rw [if_pos g, if_pos (by omega)]
      · rw [if_neg g, if_neg (by omega)]
end Go.Proofs.YtlmdpaemhjcmbaaGreatDoor
