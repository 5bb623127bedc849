/- Contracts of Flush, Older, Start. -/
import Derived.Test.YtkdaloikpljccaaO
namespace Go.Proofs.Ytkdaloikpljccaa
open Go.RowKit Go.Sort Go.Maps
variable {w w' : World} {tb b : Nat} {most : Int} {E : Nat → Option Ent} {l : List Ent}
theorem e27 : ∀ args w, (callFunc 27 args).run Try.prog w = .ok (.enter 27 args) w := enters_of Try.func27 (by kernel_rfl) rfl
theorem e32 : ∀ args w, (callFunc 32 args).run Try.prog w = .ok (.enter 32 args) w := enters_of Try.func32 (by kernel_rfl) rfl
theorem e34 : ∀ args w, (callFunc 34 args).run Try.prog w = .ok (.enter 34 args) w := enters_of Try.func34 (by kernel_rfl) rfl

theorem start_any (h : Tab w tb b most E l) :
    Calls Try.prog 9 #[.pointer (some ⟨tb, 0, none⟩)] w fun e w' => e = .returned (.tuple #[]) ∧ Tab w' tb b most E (l.filter fun e => !rmv (fun _ => true) e) ∧ Off (fun k => k = b) w w' := by
  have hcon := removeLearnt_any h (fun _ => true) 27 #[] e27 (fun W' e _ => all_cl e W')
  clear h
  go_enter Try.func9, Try.ntmps9
  go_wp2_with fail
  refine hcon.mono ?_
  rintro e w2 ⟨rfl, ht2, ho2⟩
  go_wp2
  go_end0
  exact ⟨rfl, ht2, ho2⟩
theorem start_nil (w : World) : Calls Try.prog 9 #[.pointer none] w fun e w' => e = .returned (.tuple #[]) ∧ Below w.heap.size w w' := by
  have hcon := removeLearnt_nil (.func (.func 27) #[] #[]) w rfl
  go_enter Try.func9, Try.ntmps9
  go_wp2_with fail
  refine hcon.mono ?_
  rintro e w2 ⟨rfl, hb⟩
  go_wp2
  go_end0
  exact ⟨rfl, hb⟩

theorem box3 (w : World) (x : Int) : VarAt (w.alloc (.cells #[.int .i64 x] 3)) w.heap.size #[.int .i64 x] 3 := var_new w _ 3
theorem Tab.far (h : Tab w tb b most E l) {c : Nat} {xs : Array Value} {t : TypeId} (hv : VarAt w c xs t) : ¬ c = b := fun e0 => by
  subst e0
  obtain ⟨es, cl, h3⟩ := h.at_map
  unfold VarAt at hv
  rw [h3] at hv
  cases hv
theorem flush_any (h : Tab w tb b most E l) (port : Int) :
    Calls Try.prog 14 #[.pointer (some ⟨tb, 0, none⟩), .int .i64 port] w fun e w' => e = .returned (.int .i64 (cntR l fun e => e.port == port)) ∧ Tab w' tb b most E (l.filter fun e => !rmv (fun e => e.port == port) e) ∧ Off (fun k => k = b) w w' := by
  have hb := box_below w (.cells #[.int .i64 port] 3)
  have h1 := h.below hb
  have hv := box3 w port
  have hcon := removeLearnt_any h1 (fun e => e.port == port) 32 #[.pointer (some ⟨w.heap.size, 0, none⟩)] e32 (fun W' e ho => port_cl e W' _ port (((ho.var hv (h1.far hv)).cell 0).trans rfl))
  have HB := Lib.hid hb
  clear h h1 hb hv
  go_enter Try.func14, Try.ntmps14
  go_wp2_with fail
  refine hcon.mono ?_
  rintro e w2 ⟨rfl, ht2, ho2⟩
  go_wp2
  go_ret
  exact ⟨rfl, ht2, (Below.off HB.out _).trans ho2 (fun _ _ x => x)⟩
theorem flush_nil (port : Int) (w : World) : Calls Try.prog 14 #[.pointer none, .int .i64 port] w fun e w' => e = .returned (.int .i64 0) ∧ Below w.heap.size w w' := by
  have HB := Lib.hid (box_below w (.cells #[.int .i64 port] 3))
  have hcon := removeLearnt_nil (.func (.func 32) #[] #[.pointer (some ⟨w.heap.size, 0, none⟩)]) (w.alloc (.cells #[.int .i64 port] 3)) rfl
  go_enter Try.func14, Try.ntmps14
  go_wp2_with fail
  refine hcon.mono ?_
  rintro e w2 ⟨rfl, hb⟩
  go_wp2
  go_ret
  exact ⟨rfl, below_next HB.out hb⟩

/-- The blocks of a table that may turn, in short. -/
theorem Grew.of {E E' : Nat → Option Ent} (w : World) (h : ∀ k, (E' k).isSome = (E k).isSome) : Grew w E E' := fun k _ h1 => by rw [← h k]; exact h1
theorem older_any (h : Tab w tb b most E l) (n : Int) :
    Calls Try.prog 15 #[.pointer (some ⟨tb, 0, none⟩), .int .i64 n] w fun e w' => e = .returned (.int .i64 (cntR (l.map older) fun e => decide (n ≤ e.age))) ∧ (∃ E', Tab w' tb b most E' ((l.map older).filter fun e => !rmv (fun e => decide (n ≤ e.age)) e) ∧ Grew w E E') ∧ Off (Foot b E) w w' := by
  have hb := box_below w (.cells #[.int .i64 n] 3)
  have h1 := h.below hb
  have hv := box3 w n
  have HB := Lib.hid hb
  have HV := Lib.hid hv
  have HT := Lib.hid h
  have H1 := Lib.hid h1
  clear h hb hv h1
  go_enter Try.func15, Try.ntmps15
  go_wp2_with fail
  refine (age_any H1.out).mono ?_
  rintro e w1 ⟨rfl, ⟨E', ht1, hE⟩, ho1⟩
  have hv1 := ho1.var HV.out (fun h2 => by
    obtain ⟨e, he⟩ := Option.isSome_iff_exists.1 h2
    exact var_ne HV.out (H1.out.ents _ e he) (by decide) rfl)
  have hcon := removeLearnt_any ht1 (fun e => decide (n ≤ e.age)) 34 #[.pointer (some ⟨w.heap.size, 0, none⟩)] e34 (fun W' e ho => age_cl e W' _ n (((ho.var hv1 (ht1.far hv1)).cell 0).trans rfl))
  have HE := Lib.hid hE
  have HO := Lib.hid ho1
  clear hE ho1 ht1 hv1
  go_wp2_with fail
  refine hcon.mono ?_
  rintro e w2 ⟨rfl, ht2, ho2⟩
  go_wp2
  go_ret
  refine ⟨rfl, ⟨E', ht2, Grew.of _ HE.out⟩, ((Below.off HB.out _).trans (HO.out.mono (fun _ _ x => Or.inr x)) (fun _ _ x => x)).trans ho2 (fun _ _ x => Or.inl x)⟩
theorem age_nil (w : World) : Calls Try.prog 33 #[.pointer none] w fun e w' => e = .returned (.tuple #[]) ∧ w = w' := by
  go_enter Try.func33, Try.ntmps33
  go_wp2
  exact bodyPost_ret (v := .tuple #[]) (by simp [results, Try.results33]) rfl ⟨rfl, rfl⟩
theorem older_nil (n : Int) (w : World) : Calls Try.prog 15 #[.pointer none, .int .i64 n] w fun e w' => e = .returned (.int .i64 0) ∧ Below w.heap.size w w' := by
  have HB := Lib.hid (box_below w (.cells #[.int .i64 n] 3))
  have hcon := removeLearnt_nil (.func (.func 34) #[] #[.pointer (some ⟨w.heap.size, 0, none⟩)]) (w.alloc (.cells #[.int .i64 n] 3)) rfl
  go_enter Try.func15, Try.ntmps15
  go_wp2_with fail
  refine (age_nil _).mono ?_
  rintro e w1 ⟨rfl, rfl⟩
  go_wp2_with fail
  refine hcon.mono ?_
  rintro e w2 ⟨rfl, hb⟩
  go_wp2
  go_ret
  exact ⟨rfl, below_next HB.out hb⟩
theorem all_nil (w : World) : Calls Try.prog 17 #[.pointer none] w fun e w' => e = .returned (.slice none 0 0) ∧ w = w' := by
  go_enter Try.func17, Try.ntmps17
  go_wp2
  go_ret
  exact ⟨rfl, rfl⟩
/-- New. -/
theorem new_any (most : Int) (hm : most ≤ 60) (w : World) :
    Calls Try.prog 6 #[.int .i64 most] w fun e w' => ∃ tb b, e = .returned (.pointer (some ⟨tb, 0, none⟩)) ∧ Tab w' tb b most (fun _ => none) [] ∧ Below w.heap.size w w' ∧ w.heap.size ≤ tb ∧ w.heap.size ≤ b := by
  have hmm := @run_makeMap Try.prog
  have hown := (World.ownsMap_made w Try.prog 24 (ptrR fun _ => none)).alloc (.cells #[.int .i64 most, .map (some w.heap.size)] 51)
  have hv := var_new (w.alloc (.map #[] 0)) #[.int .i64 most, .map (some w.heap.size)] 51
  have hb := (box_below w (.map #[] 0)).alloc (by simp) (.cells #[.int .i64 most, .map (some w.heap.size)] 51)
  have ht : Tab ((w.alloc (.map #[] 0)).alloc (.cells #[.int .i64 most, .map (some w.heap.size)] 51)) (w.alloc (.map #[] 0)).heap.size w.heap.size most (fun _ => none) [] :=
    ⟨hv, ⟨[], hown, ⟨by simp, by simp⟩⟩, fun q e h => (by cases h), ⟨List.Pairwise.nil, by simp⟩, by simp, hm⟩
  have HT := Lib.hid ht
  have HB := Lib.hid hb
  clear hown hv hb ht
  go_enter Try.func6, Try.ntmps6
  go_wp2
  go_ret
  exact ⟨w.heap.size + 1, w.heap.size, rfl, by have := HT.out; rw [alloc_size] at this; exact this, HB.out, by omega, Nat.le_refl _⟩
end Go.Proofs.Ytkdaloikpljccaa
