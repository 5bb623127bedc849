/- What InfoHears lays in a port, and what becomes of it. -/
import Derived.Test.YtjfdochceejegaaDoorMf
namespace Go.Proofs.YtjfdochceejegaaDoor
open Go.RowKit Go.Sort

/-- A port that is Current and was told a message. -/
def hrX (k : Int) (f r c b p a m h d : Nat) (xs : Array Value) : Array Value := upd xs [(2, .bool true), (86, .int .i64 2), (43, .bool false), (31, .bool true), (72, .int .i64 k), (73, .int .u8 f), (74, .int .u64 r), (75, .int .u32 c), (76, .int .u64 b), (77, .int .u16 p), (78, .int .u16 a), (79, .int .u16 m), (80, .int .u16 h), (81, .int .u16 d)]
theorem hrX_typed (k : Int) (f r c b p a m h d : Nat) {xs : Array Value} (ht : Typed xs) : Typed (hrX k f r c b p a m h d xs) := upd_typed _ ht (by
  simp only [List.mem_cons, List.not_mem_nil, or_false]
  rintro p (rfl | rfl | rfl | rfl | rfl | rfl | rfl | rfl | rfl | rfl | rfl | rfl | rfl | rfl)
  · exact isB rfl _
  · exact isK rfl _
  · exact isB rfl _
  · exact isB rfl _
  · exact isK rfl _
  · exact isK rfl _
  · exact isK rfl _
  · exact isK rfl _
  · exact isK rfl _
  · exact isK rfl _
  · exact isK rfl _
  · exact isK rfl _
  · exact isK rfl _
  · exact isK rfl _)
theorem hrX_num (k : Int) (f r c b p a m h d : Nat) {xs : Array Value} (hx : xs.size = 90) (j : Nat) (hj : j < 90) : numI (hrX k f r c b p a m h d xs) j = match look [(2, .bool true), (86, .int .i64 2), (43, .bool false), (31, .bool true), (72, .int .i64 k), (73, .int .u8 f), (74, .int .u64 r), (75, .int .u32 c), (76, .int .u64 b), (77, .int .u16 p), (78, .int .u16 a), (79, .int .u16 m), (80, .int .u16 h), (81, .int .u16 d)] j with | some (.int _ n) => n | some _ => 0 | none => numI xs j := upd_num _ j (by omega)
theorem hrX_bool (k : Int) (f r c b p a m h d : Nat) {xs : Array Value} (hx : xs.size = 90) (j : Nat) (hj : j < 90) : boolI (hrX k f r c b p a m h d xs) j = match look [(2, .bool true), (86, .int .i64 2), (43, .bool false), (31, .bool true), (72, .int .i64 k), (73, .int .u8 f), (74, .int .u64 r), (75, .int .u32 c), (76, .int .u64 b), (77, .int .u16 p), (78, .int .u16 a), (79, .int .u16 m), (80, .int .u16 h), (81, .int .u16 d)] j with | some (.bool n) => n | some _ => false | none => boolI xs j := upd_bool _ j (by omega)
theorem hrX_rg (k : Int) (f r c b p a m h d : Nat) {xs : Array Value} (hr : Rg xs) (hx : xs.size = 90) (lf : f < 256) (lb : b < 18446744073709551616) (lp : p < 65536) (la : a < 65536) (lm : m < 65536) (lh : h < 65536) (ld : d < 65536) : Rg (hrX k f r c b p a m h d xs) := by
  have e := fun j hj => hrX_num k f r c b p a m h d hx j hj
  exact ⟨⟨f, e 73 (by omega), lf⟩, ⟨b, e 76 (by omega), lb⟩, ⟨p, e 77 (by omega), lp⟩, ⟨a, e 78 (by omega), la⟩, ⟨m, e 79 (by omega), lm⟩, ⟨h, e 80 (by omega), lh⟩, ⟨d, e 81 (by omega), ld⟩, by rw [e 58 (by omega)]; exact hr.vb, by rw [e 59 (by omega)]; exact hr.vp⟩
theorem step_hears (rs : Bool) (k : Int) (f r c b p a m h d : Nat) {xs : Array Value} (hx : xs.size = 90) : stepX rs (hrX k f r c b p a m h d xs) = (true, hearX rs (hrX k f r c b p a m h d xs)) := by
  have e2 : boolI (hrX k f r c b p a m h d xs) 2 = true := hrX_bool k f r c b p a m h d hx 2 (by omega)
  have e43 : boolI (hrX k f r c b p a m h d xs) 43 = false := hrX_bool k f r c b p a m h d hx 43 (by omega)
  have e31 : boolI (hrX k f r c b p a m h d xs) 31 = true := hrX_bool k f r c b p a m h d hx 31 (by omega)
  have e86 : numI (hrX k f r c b p a m h d xs) 86 = 2 := hrX_num k f r c b p a m h d hx 86 (by omega)
  rw [stepX_at]
  simp [e2, e43, e31, e86]
theorem keep45 {xs : Array Value} {l : List (Nat × Value)} (ht : Typed xs) (hl : (l.all fun p => p.1 != 45) = true) : numI (upd xs l) 45 = numI xs 45 := num_out ht.1 (by omega) hl
theorem hsX_45 {X : Array Value} (h : Typed X) : numI (hsX X) 45 = numI X 45 := by
  have t1 : Typed (upd X [(16, .bool false), (27, .bool false)]) := upd_typed _ h (by
    simp only [List.mem_cons, List.not_mem_nil, or_false]
    rintro p (rfl | rfl)
    · exact isB rfl _
    · exact isB rfl _)
  have t2 := propX_typed t1
  have t3 := flagX_typed t2
  have t4 := hsB_typed (X := hsA X) t3
  have t5 := mvS_typed t4
  have t6 := lvX_typed t5
  have t7 : Typed (upd (lvX (mvS (hsB (hsA X)))) [(44, .int .i64 3)]) := upd_typed _ t6 (by
    simp only [List.mem_cons, List.not_mem_nil, or_false]
    rintro p rfl
    exact isK rfl _)
  have e1 := keep45 (l := [(16, .bool false), (27, .bool false)]) h rfl
  have e2 : numI (propX (upd X [(16, .bool false), (27, .bool false)])) 45 = numI (upd X [(16, .bool false), (27, .bool false)]) 45 := keep45 t1 rfl
  have e3 : numI (hsA X) 45 = numI (propX (upd X [(16, .bool false), (27, .bool false)])) 45 := keep45 t2 rfl
  have e4 : numI (hsB (hsA X)) 45 = numI (hsA X) 45 := keep45 t3 rfl
  have e5 : numI (mvS (hsB (hsA X))) 45 = numI (hsB (hsA X)) 45 := keep45 t4 rfl
  have e6 : numI (lvX (mvS (hsB (hsA X)))) 45 = numI (mvS (hsB (hsA X))) 45 := keep45 t5 rfl
  have e7 := keep45 (l := [(44, .int .i64 3)]) t6 rfl
  have e8 : numI (hsX X) 45 = numI (upd (lvX (mvS (hsB (hsA X)))) [(44, .int .i64 3)]) 45 := keep45 t7 rfl
  rw [e8, e7, e6, e5, e4, e3, e2, e1]
theorem h4X_45 (rs : Bool) (n : Int) {X : Array Value} (h : Typed X) : numI (h4X rs n X) 45 = numI X 45 := by
  unfold h4X
  split
  · exact hsX_45 h
  · split
    · have e1 : numI (propX X) 45 = numI X 45 := keep45 h rfl
      have e2 : numI (flagX (propX X)) 45 = numI (propX X) 45 := keep45 (propX_typed h) rfl
      have e3 : numI (lvX (flagX (propX X))) 45 = numI (flagX (propX X)) 45 := keep45 (flagX_typed (propX_typed h)) rfl
      rw [e3, e2, e1]
    · split
      · unfold infX
        split
        · exact keep45 h rfl
        · rfl
      · split
        · have e2 : numI (ndX rs X) 45 = numI (ndA rs X) 45 := keep45 (ndA_typed rs h) rfl
          rw [e2]
          unfold ndA
          split
          · exact keep45 h rfl
          · exact keep45 h rfl
        · rfl
theorem hearX_45 (rs : Bool) {xs : Array Value} (ht : Typed xs) : numI (hearX rs xs) 45 = newsX xs := by
  have t3 := h3X_typed (h2X_typed (h1X_typed ht))
  have e1 : numI (hearX rs xs) 45 = numI (h4X rs (newsX xs) (h3X (h2X (h1X xs)))) 45 := keep45 (h4X_typed rs _ t3) rfl
  rw [e1, h4X_45 rs _ t3, h3X_news ht]
theorem hearX_31 (rs : Bool) {xs : Array Value} (ht : Typed xs) : boolI (hearX rs xs) 31 = false := by
  unfold hearX
  rw [upd_bool _ 31 (by rw [(h4X_typed rs _ (h3X_typed (h2X_typed (h1X_typed ht)))).1]; omega)]
  rfl
end Go.Proofs.YtjfdochceejegaaDoor
