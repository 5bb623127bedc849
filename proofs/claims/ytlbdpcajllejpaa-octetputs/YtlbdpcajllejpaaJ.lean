/- What OctetPuts reads back: its closure's contract; and memory that it makes itself. -/
import Derived.Test.YtlbdpcajllejpaaI
namespace Go.Proofs.Ytlbdpcajllejpaa
open Go.RowKit Go.Sort

/-- A store on both sides keeps what is alike alike. -/
theorem below_set_both {B : Nat} {w w' : World} (h : Below B w w') (a : Addr) (u : Value) : Below B (w.setCell a u) (w'.setCell a u) := by
  refine ⟨h.os, h.tape, h.output, by simpa [World.setCell] using h.size, fun k hk => ?_⟩
  by_cases hka : k = a.block
  · subst hka
    simp only [World.setCell, Array.getElem?_modify, if_true, h.block _ hk]
  · rw [Below.heap_setCell _ _ _ _ hka, Below.heap_setCell _ _ _ _ hka, h.block _ hk]

set_option maxHeartbeats 1000000 in
theorem puts1_any (r ah ck cg b n k : Nat) (la : List UInt8) (p : Option Addr) (cap : Nat) (wr w1 : World) (v : Value) (hin : InRead r wr (la ++ lw n k k) b v w1) (hl : la.length ≤ 1000) (hk : k ≤ 8)
    (ha : OneAt wr ah (.slice p la.length cap) 22) (hc : OneAt wr ck (.int .i64 k) 3) (hg : OneAt wr cg (.int .u64 0) 23) (har : ah < r) (hcr : ck < r) (hgr : cg < r) :
    Calls Try.prog 8 #[ptr b, ptr ah, ptr ck, ptr cg] w1 fun e w2 => e = .returned (.tuple #[]) ∧ OneAt w2 r (.int .i64 0) 26 ∧ Below r (wr.setCell ⟨cg, 0, none⟩ (.int .u64 ((n % 256 ^ k : Nat) : Int))) w2 := by
  have hlt := hin.lt
  have hlen : (la ++ lw n k k).length = la.length + k := by rw [List.length_append, lw_len]
  have a1 : w1.cell? ⟨ah, 0, none⟩ = some (.slice p la.length cap) := (ha.below hin.below har).cell 0
  have con := bytes_ok b (r + 1) v _ la.length w1 hin.rd hin.bts (by omega) (by omega)
  have C1 := Lib.hid (hc.below hin.below hcr)
  have G1 := Lib.hid (hg.below hin.below hgr)
  have RES := Lib.hid hin.res
  have HB := Lib.hid hin.below
  clear hin ha hc hg
  go_enter Try.func8, Try.ntmps8
  go_wp2_with fail
  refine con.mono ?_
  rintro e w2 ⟨v1, v2, rfl, hb2, rd2, bt2, -, -⟩
  have e1 : (la ++ lw n k k).drop la.length = lw n k k := by rw [List.drop_left]
  rw [e1] at bt2
  have c2 : w2.cell? ⟨ck, 0, none⟩ = some (.int .i64 k) := (C1.out.below hb2 (by omega)).cell 0
  have G2 := Lib.hid (G1.out.below hb2 (by omega))
  have RES2 := Lib.hid (RES.out.below hb2 (by omega))
  have HB2 := Lib.hid (HB.out.trans (hb2.mono (by omega)))
  have con2 := number_ok b (r + 1) v2 _ k w2 rd2 bt2 (by rw [lw_len]; omega) hk (by rw [lw_len]; omega)
  have e2 : (lw n k k).take k = lw n k k := List.take_of_length_le (by rw [lw_len]; omega)
  have e3 : numOf (lw n k k) = n % 256 ^ k := by rw [numOf_lw n k k (Nat.le_refl _)]; simp
  have e4 : (lw n k k).drop k = [] := List.drop_eq_nil_of_le (by rw [lw_len]; omega)
  rw [e2, e3, e4] at con2
  clear con e1 e2 e3 e4 hlen C1 G1 RES HB hb2 rd2 bt2 a1
  go_wp2_with fail
  refine con2.mono ?_
  rintro e w3 ⟨v3, rfl, hb3, rd3, bt3, far3⟩
  have g3 := G2.out.below hb3 (by omega)
  have g0 : w3.cell? ⟨cg, 0, none⟩ = some (.int .u64 0) := g3.cell 0
  have f0 := g3.frozen 0
  have RES3 := Lib.hid ((RES2.out.below hb3 (by omega)).set_other (a := ⟨cg, 0, none⟩) (by simp; omega) (.int .u64 ((n % 256 ^ k : Nat) : Int)))
  have HB3 := Lib.hid (below_set_both (HB2.out.trans (hb3.mono (by omega))) ⟨cg, 0, none⟩ (.int .u64 ((n % 256 ^ k : Nat) : Int)))
  have RD3 := rd3.set_other (a := ⟨cg, 0, none⟩) (by simp; omega) (.int .u64 ((n % 256 ^ k : Nat) : Int))
  have BT3 : Bts (w3.setCell ⟨cg, 0, none⟩ (.int .u64 ((n % 256 ^ k : Nat) : Int))) b v3 [] := by
    rcases bt3 with h | ⟨a, cap, h1, h2, h3, h4, h5⟩
    · exact .inl h
    · exact .inr ⟨a, cap, h1, h2, h3, fun h => absurd h (by simp), fun j hj => absurd hj (by simp)⟩
  have con3 := left_any b (r + 1) v3 [] b _ RD3 BT3
  clear con2 G2 RES2 HB2 hb3 rd3 bt3 far3 g3 RD3 BT3 c2
  generalize hX : ((n % 256 ^ k : Nat) : Int) = X at *
  have HX := Lib.hid hX
  clear hX
  go_wp2_with fail
  refine con3.mono ?_
  rintro e w4 ⟨rfl, rfl⟩
  clear con3
  go_wp2_with fail
  go_end0
  exact ⟨rfl, RES3.out, by rw [HX.out]; exact HB3.out⟩

/-- A block of just these bytes. -/
abbrev BlockAt (w : World) (g : Nat) (l : List UInt8) : Prop := VarAt w g (l.map bV).toArray 5
theorem made_zero (c : Nat) : madeCells #[.int .u8 0] c = ((List.replicate c (0 : UInt8)).map bV).toArray := by
  apply Array.ext
  · simp [madeCells]
  · intro i h1 h2
    simp [madeCells, Nat.mod_one]
theorem make_run (l c : Nat) (h1 : l ≤ c) (h2 : c ≤ 100000) (w : World) : (Instr.makeSlice 22 (.int .i64 (l : Int)) (.int .i64 (c : Int))).run Try.prog w = .ok (.slice (some ⟨w.heap.size, 0, none⟩) l c) (w.alloc (.cells ((List.replicate c (0 : UInt8)).map bV).toArray 5)) := by
  obtain ⟨i0, hinf, hz0, hz1, hz2⟩ := info_parts info5
  have := run_make (P := Try.prog) w 22 5 i0 (.int .u8 0) und22 hinf hz0 .i64 .i64 l c (by omega) (by omega) (by rw [hz2]; omega) (by omega)
  rw [this, hz1, ← made_zero]
  simp [Value.cells]
theorem append_run (ty : TypeId) (g B : Nat) (la : List UInt8) (av : Value) (w : World) (hg : BlockAt w g (List.replicate (la.length + 20) 0)) (ha : Bts w B av la) (hl : la.length ≤ 1000) :
    ∃ w', (Builtin.append_ #[22, 22] ty #[.slice (some ⟨g, 0, none⟩) 0 (la.length + 20), av]).run Try.prog w = .ok (.slice (some ⟨g, 0, none⟩) la.length (la.length + 20)) w' ∧ BlockAt w' g (la ++ List.replicate 20 0) ∧
      ∀ (N : Nat) (W : World), N ≤ g → Below N W w → Below N W w' := by
  obtain ⟨i0, hinf, hz0, hz1, hz2⟩ := info_parts info5
  rcases ha with ⟨rfl, rfl⟩ | ⟨a, cap, rfl, h1, h2, h3, h4⟩
  · have hown : w.ownsRow 0 5 1 (.slice (some ⟨g, 0, none⟩) 0 20) 0 [] := ⟨rfl, .inr ⟨g, 20, _, rfl, Nat.zero_le _, hg, by omega, by decide, by simp, by simp⟩⟩
    exact ⟨w, run_append_owned_none (P := Try.prog) w 0 22 ty 5 i0 1 und22 hinf _ 0 [] hown, hg, fun _ _ _ h => h⟩
  · have hr := run_append_room (P := Try.prog) w 22 ty 5 i0 und22 hinf g 0 (la.length + 20) _ hg a la.length cap (la.map bV) (by rw [hz1]; simp) h4.news (bytes_oneCell la) (by omega) (by simp)
    rw [Nat.zero_add] at hr
    refine ⟨_, hr, ?_, fun N W hN hb => hb.trans ⟨rfl, rfl, rfl, by simp [World.setRow], fun k hk => setRow_other _ _ _ _ (by omega)⟩⟩
    have := setRow_heap w g _ ((((List.replicate (la.length + 20) (0 : UInt8)).map bV).toArray.toList.take (0 * i0.size) ++ la.map bV ++ ((List.replicate (la.length + 20) (0 : UInt8)).map bV).toArray.toList.drop (0 * i0.size + (la.map bV).length)).toArray) 5 (0, 0) hg
    unfold BlockAt VarAt
    rw [this]
    simp
theorem block_bts {w : World} {g B : Nat} {l m : List UInt8} {cap : Nat} (h : BlockAt w g (l ++ m)) (hB : g < B) (hc : l.length ≤ cap) (hm : cap ≤ maxLen) : Bts w B (.slice (some ⟨g, 0, none⟩) l.length cap) l := by
  refine .inr ⟨_, cap, rfl, hc, hm, fun _ => hB, fun j hj => ?_⟩
  rw [Addr.add_lit, Nat.zero_add, h.cell j]
  simp [List.getElem?_append, hj]
theorem bts_string {w : World} {B : Nat} {v : Value} {l : List UInt8} (h : Bts w B v l) : (convert 22 9 v).run Try.prog w = .ok (strV l) w := by
  rcases h with ⟨rfl, rfl⟩ | ⟨a, cap, rfl, h1, h2, h3, h4⟩
  · rw [run_convert_bytes_string w 22 9 5 none 0 0 und22 und5 und9]; rfl
  · exact run_convert_bytes_back w 22 9 5 a cap l und22 und5 und9 h4
theorem spare_string {w : World} {g c : Nat} {l m : List UInt8} (h : BlockAt w g (l ++ m)) : (convert 22 9 (.slice (some ⟨g, l.length, none⟩) m.length c)).run Try.prog w = .ok (strV m) w := by
  refine run_convert_bytes_back w 22 9 5 _ c m und22 und5 und9 fun j hj => ?_
  rw [Addr.add_lit, h.cell (l.length + j)]
  simp [hj]
end Go.Proofs.Ytlbdpcajllejpaa
