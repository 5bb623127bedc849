/- The whole call of FdbActs: calls, one behind the other. -/
import Derived.Test.YtkdaloikpljccaaYa
import Derived.Test.YtkdaloikpljccaaYb
import Derived.Test.YtkdaloikpljccaaYc
import Derived.Test.YtkdaloikpljccaaYd
import Derived.Test.YtkdaloikpljccaaYe
import Derived.Test.YtkdaloikpljccaaYf
import Derived.Test.YtkdaloikpljccaaZ
namespace Go.Proofs.Ytkdaloikpljccaa
open Go.RowKit Go.Sort Go.Maps
variable {w : World} {tb b mb B : Nat} {most : Int} {E : Nat → Option Ent} {v : Value} {l : List Ent}
theorem act_any (h : Duo w tb b mb B most E v l l) (k n : Nat) (N : Int) (hk : k < 256) (hn : n < 281474976710656) :
    Calls Try.prog 7 #[.pointer (some ⟨mb, 0, none⟩), .pointer (some ⟨tb, 0, none⟩), actV k n N] w fun r w' => r = .returned (.bool true) ∧ (∃ E' v' l', Duo w' tb b mb B most E' v' l' l') ∧ Below B w w' := by
  rcases (show k % 6 = 0 ∨ k % 6 = 1 ∨ k % 6 = 2 ∨ k % 6 = 3 ∨ k % 6 = 4 ∨ k % 6 = 5 by omega) with h0 | h0 | h0 | h0 | h0 | h0
  · exact act_learn h k n N ⟨hk, h0⟩ hn
  · exact act_fix h k n N ⟨hk, h0⟩ hn
  · exact act_forget h k n N ⟨hk, h0⟩ hn
  · exact act_flush h k n N ⟨hk, h0⟩ hn
  · exact act_older h k n N ⟨hk, h0⟩ hn
  · exact act_start h k n N ⟨hk, h0⟩ hn

/-- Calls, one behind the other in memory. -/
def As (w : World) (gb o n : Nat) (K M : Nat → Nat) (Z : Nat → Int) : Prop := ∀ i, i < n → K i < 256 ∧ M i < 281474976710656 ∧ ∀ c, c < 8 → w.cell? ⟨gb, o + i * 8 + c, none⟩ = (actC (K i) (M i) (Z i))[c]?
theorem As.below {w w' : World} {gb o n : Nat} {K M : Nat → Nat} {Z : Nat → Int} (h : As w gb o n K M Z) (hb : Below w.heap.size w w') : As w' gb o n K M Z := fun i hi => by
  obtain ⟨h1, h2, h3⟩ := h i hi
  refine ⟨h1, h2, fun c hc => ?_⟩
  have h4 := h3 c hc
  have hc' : c < (actC (K i) (M i) (Z i)).size := hc
  rw [Array.getElem?_eq_getElem hc'] at h4 ⊢
  exact (hb.cell (p := ⟨gb, o + i * 8 + c, none⟩) (block_lt_of_cell h4)).trans h4
theorem As.cells {w : World} {gb o n : Nat} {K M : Nat → Nat} {Z : Nat → Int} (h : As w gb o n K M Z) {i : Nat} (hi : i < n) : w.cell? ⟨gb, o + i * 8, none⟩ = some (.int .u8 (K i : Nat)) ∧ w.cell? ⟨gb, o + i * 8 + 1, none⟩ = some (.int .u8 (ofN (M i) 0 : Nat)) ∧ w.cell? ⟨gb, o + i * 8 + 2, none⟩ = some (.int .u8 (ofN (M i) 1 : Nat)) ∧ w.cell? ⟨gb, o + i * 8 + 3, none⟩ = some (.int .u8 (ofN (M i) 2 : Nat)) ∧ w.cell? ⟨gb, o + i * 8 + 4, none⟩ = some (.int .u8 (ofN (M i) 3 : Nat)) ∧ w.cell? ⟨gb, o + i * 8 + 5, none⟩ = some (.int .u8 (ofN (M i) 4 : Nat)) ∧ w.cell? ⟨gb, o + i * 8 + 6, none⟩ = some (.int .u8 (ofN (M i) 5 : Nat)) ∧ w.cell? ⟨gb, o + i * 8 + 7, none⟩ = some (.int .i64 (Z i)) :=
  have h3 := (h i hi).2.2
  ⟨h3 0 (by omega), h3 1 (by omega), h3 2 (by omega), h3 3 (by omega), h3 4 (by omega), h3 5 (by omega), h3 6 (by omega), h3 7 (by omega)⟩
theorem idx22 (b o n c k : Nat) (h : k < n) (w : World) : (Instr.indexAt 22 (.slice (some ⟨b, o, none⟩) n c) (.int .i64 k)).run Try.prog w = .ok (.pointer (some ⟨b, o + k * 8, none⟩)) w := by
  go_simp
theorem tmod60 (x : Int) : x.tmod 60 ≤ 60 := by have := Int.tmod_lt_of_pos x (show (0 : Int) < 60 by decide); omega

theorem acts_long (most : Int) (a : Option Addr) (n c look : Nat) (hn : 300 < n) (w : World) :
    Calls Try.prog 3 #[.int .i64 most, .slice a n c, macN look] w fun r w' => r = .returned (.bool true) ∧ Below w.heap.size w w' := by
  have HB := Lib.hid (box_below w (macO (ofN look) 24))
  go_enter Try.func3, Try.ntmps3
  go_wp2_with fail
  refine (lives_any _).mono ?_
  rintro e w1 ⟨rfl, hb1⟩
  have HB1 := Lib.hid (below_next HB.out hb1)
  clear hb1
  go_wp2_with fail
  refine (lives_any _).mono ?_
  rintro e w2 ⟨rfl, hb2⟩
  have HB2 := Lib.hid (HB1.out.trans (hb2.mono HB1.out.size))
  clear hb2
  go_wp2
  go_ret
  exact ⟨rfl, HB2.out⟩

set_option maxHeartbeats 1000000 in
theorem acts_short (most : Int) (a : Option Addr) (n c look : Nat) (hn : ¬ 300 < n) (hlk : look < 281474976710656) (w : World) (hacts : 0 < n → ∃ (gb o : Nat) (K M : Nat → Nat) (Z : Nat → Int), a = some ⟨gb, o, none⟩ ∧ As w gb o n K M Z) :
    Calls Try.prog 3 #[.int .i64 most, .slice a n c, macN look] w fun r w' => r = .returned (.bool true) ∧ Below w.heap.size w w' := by
  have hb := box_below w (macO (ofN look) 24)
  have HB := Lib.hid hb
  have ha := box_at w (ofN look) 24
  obtain ⟨c0, c1, c2, c3, c4, c5⟩ := ha.n
  have HA := Lib.hid ha
  have hm60 := tmod60 most
  have HACTS : Aside _ := hacts
  have HLK := Lib.hid hlk
  have hs0 := alloc_size w (macO (ofN look) 24)
  have HS0 := Lib.hid hs0
  clear hb hacts hlk ha hs0 c0 c1 c2 c3 c4 c5
  go_enter Try.func3, Try.ntmps3
  go_wp2_with fail
  refine (lives_any _).mono ?_
  rintro e w1 ⟨rfl, hb1⟩
  have HB1 := Lib.hid hb1
  clear hb1
  go_wp2_with fail
  generalize most.tmod 60 = m at *
  refine (new_any m hm60 _).mono ?_
  rintro e w2 ⟨tb, b, rfl, ht, hb2, hl1, hl2⟩
  have hb12 := HB1.out.trans (hb2.mono HB1.out.size)
  have hbm := box_below w2 (.cells #[.slice none 0 0, .int .i64 (max m 0)] 31)
  have hD : Duo (w2.alloc (.cells #[.slice none 0 0, .int .i64 (max m 0)] 31)) tb b w2.heap.size (w.alloc (macO (ofN look) 24)).heap.size m (fun _ => none) (.slice none 0 0) [] [] :=
    ⟨ht.below hbm, ⟨var_new _ _ _, World.ownsRow_nil _ _ _ _, ⟨List.Pairwise.nil, by simp⟩, by simp⟩, fun k hk => by simp [Value.ownBlock] at hk, Nat.le_trans hb12.size hbm.size, ⟨Nat.le_trans HB1.out.size hl2, Nat.le_trans HB1.out.size hl1, hb12.size⟩, fun q hq => by simp at hq⟩
  have HD := Lib.hid hD
  have HB2 := Lib.hid (hb12.alloc hb12.size (.cells #[.slice none 0 0, .int .i64 (max m 0)] 31))
  clear ht hb2 hl1 hl2 hb12 hbm hD
  go_wp2
  go_loopw [30] (fun i wr => ∃ k : Nat, k ≤ n ∧ i = .int .i64 k ∧ (∃ E v l, Duo wr tb b w2.heap.size (w.alloc (macO (ofN look) 24)).heap.size m E v l l) ∧ Below (w.alloc (macO (ofN look) 24)).heap.size (w.alloc (macO (ofN look) 24)) wr) (fun i _ => n - (intOf i).toNat)
  case atStart => exact ⟨0, Nat.zero_le _, rfl, ⟨_, _, _, HD.out⟩, HB2.out⟩
  case round =>
    obtain ⟨k, hk, rfl, ⟨E, v, l, hD⟩, hbw⟩ := hrel
    have hws := hbw.size
    by_cases hlt : k < n
    · obtain ⟨gb, o, K, M, Z, rfl, has⟩ := HACTS.out (by omega)
      have hall := HB.out.trans (hbw.mono HB.out.size)
      have hcs := (has.below hall).cells hlt
      obtain ⟨hK, hM, _⟩ := has k hlt
      obtain ⟨a0, a1, a2, a3, a4, a5, a6, a7⟩ := hcs
      have i0 := idx22 gb o n c k hlt
      generalize K k = kk at *
      generalize M k = nn at *
      generalize Z k = NN at *
      have hb3 := box_below wr (.cells (actC kk nn NN) 33)
      have hD3 := hD.below hb3
      obtain ⟨x0, x1, x2, x3, x4, x5, x6, x7⟩ := actCells (var_new wr (actC kk nn NN) 33)
      have hc := act_any hD3 kk nn NN hK hM
      have HB3 := Lib.hid (hbw.alloc hws (.cells (actC kk nn NN) 33))
      clear hD hbw hall has hb3 hD3 hM
      go_wp2_with fail
      refine hc.mono ?_
      rintro r w4 ⟨rfl, ⟨E', v', l', hD4⟩, hb4⟩
      have hb5 := HB3.out.trans hb4
      have ha4 := HA.out.below hb5 (by rw [HS0.out]; omega)
      obtain ⟨y0, y1, y2, y3, y4, y5⟩ := ha4.n
      have hsm := same_any hD4 look HLK.out
      have HD4 := Lib.hid hD4
      have HB5 := Lib.hid hb5
      clear hD4 hb4 hb5 ha4 hc x0 x1 x2 x3 x4 x5 x6 x7 a0 a1 a2 a3 a4 a5 a6 a7
      go_wp2_with fail
      refine hsm.mono ?_
      rintro r w5 ⟨rfl, hb6⟩
      have HD5 := Lib.hid (HD4.out.below hb6)
      have HB6 := Lib.hid (HB5.out.trans (hb6.mono HB5.out.size))
      clear hb6 hsm y0 y1 y2 y3 y4 y5
      go_wp2
      go_roundw
      case rel => exact ⟨k + 1, hlt, by go_num, ⟨_, _, _, HD5.out⟩, HB6.out⟩
      case measure => simp [intOf]; omega
    · have hkn : k = n := by omega
      subst hkn
      have HBW := Lib.hid hbw
      clear hD hbw
      go_wp2
      go_ret
      exact ⟨rfl, HB.out.trans (HBW.out.mono HB.out.size)⟩
end Go.Proofs.Ytkdaloikpljccaa
