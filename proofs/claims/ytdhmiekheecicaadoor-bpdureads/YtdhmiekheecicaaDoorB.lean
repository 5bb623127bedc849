/- The contracts of the Reader's methods: Stop, Left, Bytes. -/
import Derived.Test.YtdhmiekheecicaaDoorA
namespace Go.Proofs.YtdhmiekheecicaaDoor
open Go.RowKit Go.Sort

abbrev ptr (b : Nat) : Value := .pointer (some ⟨b, 0, none⟩)
/-- What a stop panics with. -/
abbrev stopV (s : Nat) : Value := .iface 61 (ptr s)
abbrev stopped (s : Nat) : Ending := .panicked [{ v := stopV s, recovered := false }]
/-- A Reader's variable: what is left, and its stop. -/
abbrev RdAt (w : World) (b : Nat) (v : Value) (s : Nat) : Prop := VarAt w b #[v, ptr s] 65

theorem stop_any (b s : Nat) (v : Value) (e e0 : Int) (w : World) (hr : RdAt w b v s) (hs : OneAt w s (.int .i64 e0) 63) (hsb : s < b) :
    Calls Tryd.prog 31 #[ptr b, .int .i64 e] w fun x w' => x = stopped s ∧ w' = w.setCell ⟨s, 0, none⟩ (.int .i64 e) := by
  have r1 : w.cell? ⟨b, 1, none⟩ = some (ptr s) := hr.cell 1
  have s0 : w.cell? ⟨s, 0, none⟩ = some (.int .i64 e0) := hs.cell 0
  have f0 := hs.frozen 0
  have r2 : (w.setCell ⟨s, 0, none⟩ (.int .i64 e)).cell? ⟨b, 1, none⟩ = some (ptr s) := (hr.set_other (a := ⟨s, 0, none⟩) (by simp; omega) (.int .i64 e)).cell 1
  clear hr hs
  go_enter Tryd.func31, Tryd.ntmps31
  go_wp2
  exact ⟨rfl, rfl, rfl⟩

theorem left_any (b s : Nat) (v : Value) (l : List UInt8) (B : Nat) (w : World) (hr : RdAt w b v s) (hv : Bts w B v l) :
    Calls Tryd.prog 35 #[ptr b] w fun x w' => x = .returned (.int .i64 l.length) ∧ w = w' := by
  have r0 : w.cell? ⟨b, 0, none⟩ = some v := hr.cell 0
  clear hr
  rcases hv with ⟨rfl, rfl⟩ | ⟨a, cap, rfl, h1, h2, h3, h4⟩
  · go_enter Tryd.func35, Tryd.ntmps35
    go_wp2
    go_ret
    exact ⟨rfl, rfl⟩
  · clear h4
    unfold maxLen at h2
    go_enter Tryd.func35, Tryd.ntmps35
    go_wp2
    go_ret
    exact ⟨rfl, rfl⟩

theorem size5 : Tryd.prog.elem 32 = 5 := by kernel_rfl
theorem elem22 : Tryd.prog.underlying 32 = some (.slice (Tryd.prog.elem 32)) := by kernel_rfl
theorem sizeOf22 (w : World) : (sizeOf (Tryd.prog.elem 32)).run Tryd.prog w = .ok 1 w := by kernel_rfl
theorem slice_head (a : Addr) (len cap n : Nat) (h : n ≤ cap) (w : World) : (Instr.slice 32 (.slice (some a) len cap) none (some (.int .i64 n)) none).run Tryd.prog w = .ok (.slice (some a) n cap) w := by
  rw [run_slice_h w 32 (some a) len cap elem22 .i64 n (by omega) (by omega), sizeOf22]
  simp [sliced, Result.andThen, Addr.add]
def cutA (a : Addr) (cap n : Nat) : Addr := if cap = n then a else a.add n
theorem slice_tail (a : Addr) (len cap n : Nat) (h : n ≤ len) (w : World) : (Instr.slice 32 (.slice (some a) len cap) (some (.int .i64 n)) none none).run Tryd.prog w = .ok (.slice (some (cutA a cap n)) (len - n) (cap - n)) w := by
  rw [run_slice_l w 32 (some a) len cap elem22 .i64 n (by omega) (by omega), sizeOf22]
  unfold cutA
  by_cases hc : cap = n
  · simp [sliced, Result.andThen, hc]
  · simp [sliced, Result.andThen, hc]
theorem add_block (a : Addr) (n : Nat) : (a.add n).block = a.block := by unfold Addr.add; split <;> rfl
theorem add_add (a : Addr) (n m : Nat) : (a.add n).add m = a.add (n + m) := by
  unfold Addr.add
  by_cases h1 : n = 0
  · subst h1; simp
  · by_cases h2 : m = 0
    · subst h2; simp [h1]
    · simp [h1, h2]; omega
theorem far_cut {a : Addr} {len cap n m k : Nat} : ∀ A, Far A (.slice (some a) len cap) → Far A (.slice (some (cutA a cap n)) m k) := by
  intro A h c _ _ he
  cases he
  have := h a _ _ rfl
  unfold cutA; split
  · exact this
  · rw [add_block]; exact this
theorem Lie.take {w : World} {a : Addr} {l : List UInt8} (h : Lie w a l) (n : Nat) : Lie w a (l.take n) := by
  intro j hj
  rw [List.length_take] at hj
  rw [List.getElem_take]
  exact h j (by omega)
theorem bts_head {w : World} {B : Nat} {a : Addr} {l : List UInt8} {cap : Nat} (n : Nat) (hn : n ≤ l.length) (hc : l.length ≤ cap) (hm : cap ≤ maxLen) (hB : 0 < l.length → a.block < B) (h : Lie w a l) : Bts w B (.slice (some a) n cap) (l.take n) :=
  .inr ⟨a, cap, by rw [List.length_take, Nat.min_eq_left hn], by rw [List.length_take]; omega, hm, fun h => hB (by rw [List.length_take] at h; omega), h.take n⟩
theorem bts_tail {w : World} {B : Nat} {a : Addr} {l : List UInt8} {cap : Nat} (n : Nat) (hn : n ≤ l.length) (hc : l.length ≤ cap) (hm : cap ≤ maxLen) (hB : 0 < l.length → a.block < B) (h : Lie w a l) : Bts w B (.slice (some (cutA a cap n)) (l.length - n) (cap - n)) (l.drop n) := by
  refine .inr ⟨cutA a cap n, cap - n, by rw [List.length_drop], by rw [List.length_drop]; omega, by omega, ?_, ?_⟩
  · intro h
    replace hB := hB (by rw [List.length_drop] at h; omega)
    unfold cutA; split
    · exact hB
    · rw [add_block]; exact hB
  · intro j hj
    rw [List.length_drop] at hj
    unfold cutA
    rw [if_neg (by omega), add_add, List.getElem_drop]
    exact h (n + j) (by omega)

/-- A reading that went on: its rest was stored, all else is as it was. -/
def Adv (b : Nat) (w : World) (v2 : Value) (w' : World) : Prop := ∃ w2, Below w.heap.size w w2 ∧ w' = w2.setCell ⟨b, 0, none⟩ v2

set_option maxHeartbeats 1000000 in
theorem bytes_ok (b s : Nat) (v : Value) (l : List UInt8) (n : Nat) (w : World) (hr : RdAt w b v s) (hv : Bts w b v l) (hn : n ≤ l.length) (hl : l.length ≤ 100000) :
    Calls Tryd.prog 30 #[ptr b, .int .i64 n] w fun x w' => ∃ v1 v2, x = .returned v1 ∧ Below b w w' ∧ RdAt w' b v2 s ∧ Bts w' b v2 (l.drop n) ∧ Bts w' w'.heap.size v1 (l.take n) ∧ (∀ A, Far A v → Far A v2) ∧ Adv b w v2 w' := by
  have r0 : w.cell? ⟨b, 0, none⟩ = some v := hr.cell 0
  have hlt := hr.lt
  have HR := Lib.hid hr
  clear hr
  rcases hv with ⟨rfl, rfl⟩ | ⟨a, cap, rfl, h1, h2, h3, h4⟩
  · obtain rfl : n = 0 := by simpa using hn
    have c := clone_any (.slice none 0 0) [] w.heap.size w (.inl ⟨rfl, rfl⟩) (Nat.le_refl _) (by simp)
    go_enter Tryd.func30, Tryd.ntmps30
    go_wp2_with fail
    refine c.mono ?_
    rintro x w1 ⟨v1, rfl, hown, hb⟩
    have r1 : w1.cell? ⟨b, 0, none⟩ = some (.slice none 0 0) := by rw [hb.cell hlt]; exact r0
    have rd := HR.out.below hb hlt
    have f0 := rd.frozen 0
    have RD := Lib.hid rd
    clear rd c r0
    go_wp2_with fail
    go_ret
    have hb2 := (hb.mono (Nat.le_of_lt hlt)).setCell (p := ⟨b, 0, none⟩) (Nat.le_refl _) (.slice none 0 0)
    exact ⟨v1, .slice none 0 0, rfl, hb2, RD.out.set 0 _, .inl ⟨rfl, rfl⟩, bts_of_own (ownsRow_setCell_below hown hlt _), fun _ h => h, w1, hb, rfl⟩
  · have e1 := slice_head a l.length cap n (by omega)
    have e2 := slice_tail a l.length cap n hn
    have hm := h2
    unfold maxLen at hm
    have c := clone_any (.slice (some a) n cap) (l.take n) b w (bts_head n hn h1 h2 h3 h4) (Nat.le_of_lt hlt) (by rw [List.length_take]; omega)
    have H4 := Lib.hid h4
    clear h4
    have hn1 : ¬ (l.length : Int) < n := by omega
    go_enter Tryd.func30, Tryd.ntmps30
    go_wp2_with fail
    refine c.mono ?_
    rintro x w1 ⟨v1, rfl, hown, hb⟩
    have r1 : w1.cell? ⟨b, 0, none⟩ = some (.slice (some a) l.length cap) := by rw [hb.cell hlt]; exact r0
    have rd := HR.out.below hb hlt
    have f0 := rd.frozen 0
    have RD := Lib.hid rd
    have HO := Lib.hid hown
    clear rd c r0 hown
    go_wp2_with fail
    go_ret
    have hb2 := (hb.mono (Nat.le_of_lt hlt)).setCell (p := ⟨b, 0, none⟩) (Nat.le_refl _) (.slice (some (cutA a cap n)) (l.length - n) (cap - n))
    exact ⟨v1, _, rfl, hb2, RD.out.set 0 _, (bts_tail n hn h1 h2 h3 H4.out).below hb2 (Nat.le_refl _), bts_of_own (ownsRow_setCell_below HO.out hlt _), far_cut, w1, hb, rfl⟩

set_option maxHeartbeats 1000000 in
theorem bytes_cut (b s : Nat) (v : Value) (l : List UInt8) (n : Nat) (e0 : Int) (w : World) (hr : RdAt w b v s) (hv : Bts w b v l) (hn : l.length < n) (hl : l.length ≤ 100000) (hs : OneAt w s (.int .i64 e0) 63) (hsb : s < b) :
    Calls Tryd.prog 30 #[ptr b, .int .i64 n] w fun x w' => x = stopped s ∧ w' = w.setCell ⟨s, 0, none⟩ (.int .i64 2) := by
  have r0 : w.cell? ⟨b, 0, none⟩ = some v := hr.cell 0
  have c := stop_any b s v 2 e0 w hr hs hsb
  clear hr hs
  have hv' : ∃ p cap, v = .slice p l.length cap := by
    rcases hv with ⟨rfl, rfl⟩ | ⟨a, cap, rfl, _⟩
    · exact ⟨none, 0, rfl⟩
    · exact ⟨_, _, rfl⟩
  clear hv
  obtain ⟨p, cap, rfl⟩ := hv'
  go_enter Tryd.func30, Tryd.ntmps30
  go_wp2_with fail
  refine c.mono ?_
  rintro x w1 ⟨rfl, rfl⟩
  exact ⟨rfl, rfl, rfl⟩
end Go.Proofs.YtdhmiekheecicaaDoor
