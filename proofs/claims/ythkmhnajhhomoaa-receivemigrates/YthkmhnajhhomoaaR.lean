/- Contract of the reference's Migrate. -/
import Derived.Test.YthkmhnajhhomoaaQ
import Derived.Laws.ResultCell
namespace Go.Proofs.Ythkmhnajhhomoaa
open Go.RowKit Go.Sort

theorem results_pair {fn : Func} {p u : Tmp} (h : fn.results = #[.cell p 34, .tmp u]) (tmps : Array Value) (w : World) (g : Nat) (t : TypeId) (cs : Array Value) (fr : Nat × Nat)
    (hp : tmps.getD p undef = .pointer (some ⟨g, 0, none⟩)) (hg : w.heap[g]? = some (.cells cs t fr)) (hz : cs.size = 18) :
    (results fn tmps).run Try.prog w = .ok (.tuple #[.agg cs, tmps.getD u undef]) w := by
  rw [results_cell_tmp h, hp]
  simp [asAddr, run_loadVar_row w g t 34 cs fr _ hg uB rfl (by rw [sB, hz])]
theorem PIn.congr {w : World} {s : Value} {n : Nat} {XS YS : Nat → Array Value} (h : PIn w s n XS) (e : ∀ i, i < n → YS i = XS i) : PIn w s n YS := by
  obtain ⟨a, c, rfl, h0, h1⟩ := h
  exact ⟨a, c, rfl, h0, fun hn => by
    obtain ⟨b, o, rfl, hc⟩ := h1 hn
    exact ⟨b, o, rfl, fun i hi k hk => by rw [hc i hi k hk, e i hi]⟩⟩
/-- A bridge and a Bool, as a reference's machine returns them. -/
def Ret (B : Bd) (n : Nat) (YS : Nat → Array Value) (d : Bool) (w : World) (e : Ending) (w' : World) : Prop := ∃ s', e = .returned (.tuple #[.agg (B.cells s'), .bool d]) ∧ PIn w' s' n YS ∧ Below w.heap.size w w'
set_option maxHeartbeats 1000000 in
theorem refmigrate_none (B : Bd) (s : Value) (n : Nat) (i : Int) (XS : Nat → Array Value) (w : World) (hs : PIn w s n XS) (hi : i < 0 ∨ (n : Int) ≤ i) (ht : ∀ j, j < n → Typed (XS j)) :
    Calls Try.prog 10 #[.agg (B.cells s), .int .i64 i] w fun e w' => Ret B n XS false w e w' := by
  have V1 := Lib.hid ((var_new w (B.cells s) 34).alloc (.cells z34 34))
  have V2 := Lib.hid (show VarAt ((w.alloc (.cells (B.cells s) 34)).alloc (.cells z34 34)) (w.heap.size + 1) z34 34 by
    have := var_new (w.alloc (.cells (B.cells s) 34)) z34 34
    rwa [alloc_size] at this)
  have B1 := Lib.hid (show Below w.heap.size w ((w.alloc (.cells (B.cells s) 34)).alloc (.cells z34 34)) from ((Below.refl w.heap.size w).alloc (Nat.le_refl _) _).alloc (by rw [alloc_size]; omega) _)
  obtain ⟨a, c, rfl⟩ : ∃ a c, s = .slice a n c := by obtain ⟨a, c, rfl, _⟩ := hs; exact ⟨a, c, rfl⟩
  have kTh := Lib.hid (fun w => there_no B a n c i w hi)
  have HF := Lib.hid (fun e w' (he : e = .returned (.tuple #[.agg (B.cells (.slice a n c)), .bool false])) hb => (show Ret B n XS false w e w' from ⟨_, he, hs.below (fun j hj => (ht j hj).1) hb, hb⟩))
  have HC18 := Lib.hid (show (B.cells (.slice a n c)).size = 18 by simp)
  have HC1 := Lib.hid (B.one (s := .slice a n c) rfl)
  have zz := zero34
  have zs := Lib.hid z34_size
  clear hs ht hi
  generalize Ret B n XS false w = RT at *
  generalize z34 = Z at *
  generalize B.cells (.slice a n c) = C at *
  go_enter Try.func10, Try.ntmps10
  go_wp2_with (with_reducible refine stopL 34 _ rfl ?_)
  refine Lib.hid ?_
  clear zz
  refine wpList_load_whole uB rfl sB rfl _ rfl rfl (range_whole V1.out) HC18.out ?_
  generalize (w.alloc (.cells C 34)).alloc (.cells Z 34) = w0 at *
  go_wp2_with fail
  refine (kTh.out _).mono ?_
  rintro e w1 ⟨rfl, hb⟩
  have V11 := Lib.hid (V1.out.below hb V1.out.lt)
  have V21 := Lib.hid (V2.out.below hb V2.out.lt)
  have B11 := Lib.hid (B1.out.trans (hb.mono B1.out.size))
  clear hb V1 V2 B1 kTh
  go_wp2_with (with_reducible refine stopL 34 _ rfl ?_)
  refine Lib.hid ?_
  refine wpList_load_whole uB rfl sB rfl _ rfl rfl (range_whole V11.out) HC18.out ?_
  refine wpList_store_only sB rfl _ _ rfl rfl rfl V21.out HC1.out HC18.out (by rw [zs.out]; omega) ?_
  intro w9 hv9 ho9
  rw [putL_all _ _ (by rw [zs.out, HC18.out])] at hv9
  have V9 := Lib.hid hv9
  have B9 := Lib.hid (B11.out.trans (ho9.below (by omega) B11.out.size))
  clear hv9 ho9
  go_wp2_with (with_reducible refine stopE ?_)
  refine Lib.hid ?_
  refine bodyPost_ret (v := .tuple #[.agg C, .bool false]) (results_pair (p := 4) (u := 5) rfl _ _ (w.heap.size + 1) 34 _ (0, 0) rfl V9.out HC18.out) rfl (HF.out _ _ rfl B9.out)
end Go.Proofs.Ythkmhnajhhomoaa
